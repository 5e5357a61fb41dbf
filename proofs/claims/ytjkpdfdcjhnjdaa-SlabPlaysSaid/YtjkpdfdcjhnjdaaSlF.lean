/-
  The document's example of a slab (11) answers true; nothing that was there is written.
-/
import Derived.Test.YtjkpdfdcjhnjdaaSlE
import Derived.Lib.SlBytesConst
namespace Go.Proofs.Ytjkpdfdcjhnjdaa
open Go.RowKit
set_option linter.unusedVariables false

theorem AtS.up {w : World} {base b : Nat} {v : Value} {s : SS} (h : AtS w base b v s) (hb : base ≤ b) : ∀ i, Of b v i → base ≤ i := by
  rintro i (rfl | hi)
  · exact hb
  · exact (h.row.lt i hi).1
theorem Of.one {b : Nat} {v : Value} {base : Nat} (hb : base ≤ b) : ∀ i, i = b → base ≤ i := by rintro i rfl; exact hb
set_option maxRecDepth 100000 in
set_option maxHeartbeats 4000000 in
theorem awake_any (w : World) : Calls Try.prog 11 #[] w fun e w' => e = .returned (.bool true) ∧ Below w.heap.size w w' := by
  go_enter Try.func11, Try.ntmps11
  go_wp2_with fail
  refine (new_any w).mono ?_
  rintro e w1 ⟨b, rfl, hb, hA, hB⟩
  have HBB := Lib.hid hb
  have hBa : Below w1.heap.size w1 (w1.alloc (.cells #[.int .u8 97, .int .u8 98] 5 (2, 3))) := (Below.refl _ _).alloc (Nat.le_refl _) _
  have HA1 := Lib.hid (hA.keep hBa)
  have HB1 := Lib.hid (hB.trans (hBa.mono hB.size))
  have HS1 : Hid (Src (w1.alloc (.cells #[.int .u8 97, .int .u8 98] 5 (2, 3))) (some ⟨w1.heap.size, 0, none⟩) 2 [97, 98]) := Lib.hid (Src.litm w1 _ (2, 3) [97, 98] rfl)
  have HN1 : Hid (w1.heap.size ≠ b) := Lib.hid (fun e => by have := hA.top.lt; omega)
  have hz1 := hB.size
  clear hA hB hBa hb
  have hcv := Lib.run_convert_bytes_const (P := Try.prog) w1 27 5 #[.int .u8 97, .int .u8 98] 2 2 Try.underlying27 Try.underlying5
  go_wp2_with fail
  clear hcv
  generalize w1.alloc (.cells #[.int .u8 97, .int .u8 98] 5 (2, 3)) = W at HA1 HB1 HS1 ⊢
  generalize w1.heap.size = g at HS1 HN1 hz1 ⊢
  refine (app_any w.heap.size b _ fresh [97, 98] _ _ _ W HA1.out rfl HS1.out (by intro a ha; injection ha with ha; subst ha; exact HN1.out) HB1.out.size (by decide)).mono ?_
  rintro e w2 ⟨v2, rfl, hA, ho, _⟩
  rw [show stepE fresh ([97, 98] : List Int).length = 0 by decide]
  have HB2 := Lib.hid (HB1.out.trans (ho.below (HA1.out.up HBB.out) HB1.out.size))
  obtain ⟨s1, hs1⟩ : ∃ s1, appS fresh [97, 98] = s1 := ⟨_, rfl⟩
  rw [hs1] at hA
  have HA2 := Lib.hid hA
  have E1 : Hid (s1 = ⟨[97, 98], 0, 1, -1, false⟩) := Lib.hid (by rw [← hs1]; kernel_rfl)
  clear hs1 hA ho HA1 HB1 HS1 HN1 hz1
  go_wp2_with fail
  refine (syn_any w.heap.size b _ s1 w2 HA2.out).mono ?_
  rintro e w3 ⟨rfl, hA, ho⟩
  rw [show stepE s1 0 = 0 by rw [E1.out]; rfl]
  have HB3 := Lib.hid (HB2.out.trans (ho.below (Of.one (v := v2) HBB.out) HB2.out.size))
  obtain ⟨s2, hs2⟩ : ∃ s2, synS s1 = s2 := ⟨_, rfl⟩
  rw [hs2] at hA
  have E2 : Hid (s2 = ⟨[97, 98], 2, 2, -1, false⟩) := Lib.hid (by rw [← hs2, E1.out]; kernel_rfl)
  have hBa : Below w3.heap.size w3 (w3.alloc (.cells #[.int .u8 99, .int .u8 100] 5 (2, 3))) := (Below.refl _ _).alloc (Nat.le_refl _) _
  have HA3 := Lib.hid (hA.keep hBa)
  have HB4 := Lib.hid (HB3.out.trans (hBa.mono HB3.out.size))
  have HS1 : Hid (Src (w3.alloc (.cells #[.int .u8 99, .int .u8 100] 5 (2, 3))) (some ⟨w3.heap.size, 0, none⟩) 2 [99, 100]) := Lib.hid (Src.litm w3 _ (2, 3) [99, 100] rfl)
  have HN1 : Hid (w3.heap.size ≠ b) := Lib.hid (fun e => by have := hA.top.lt; omega)
  have hz1 := HB3.out.size
  clear hs2 hA ho HA2 HB2 HB3 E1 hBa
  have hcv := Lib.run_convert_bytes_const (P := Try.prog) w3 27 5 #[.int .u8 99, .int .u8 100] 2 2 Try.underlying27 Try.underlying5
  go_wp2_with fail
  clear hcv
  generalize w3.alloc (.cells #[.int .u8 99, .int .u8 100] 5 (2, 3)) = W at HA3 HB4 HS1 ⊢
  generalize w3.heap.size = g at HS1 HN1 hz1 ⊢
  refine (app_any w.heap.size b _ s2 [99, 100] _ _ _ W HA3.out rfl HS1.out (by intro a ha; injection ha with ha; subst ha; exact HN1.out) HB4.out.size (by decide)).mono ?_
  rintro e w4 ⟨v4, rfl, hA, ho, _⟩
  rw [show stepE s2 ([99, 100] : List Int).length = 0 by rw [E2.out]; rfl]
  have HB5 := Lib.hid (HB4.out.trans (ho.below (HA3.out.up HBB.out) HB4.out.size))
  obtain ⟨s3, hs3⟩ : ∃ s3, appS s2 [99, 100] = s3 := ⟨_, rfl⟩
  rw [hs3] at hA
  have HA5 := Lib.hid hA
  have E3 : Hid (s3 = ⟨[97, 98, 99, 100], 2, 3, -1, false⟩) := Lib.hid (by rw [← hs3, E2.out]; kernel_rfl)
  clear hs3 hA ho HA3 HB4 HS1 HN1 hz1 E2
  go_wp2_with fail
  refine (crs_any w.heap.size b _ s3 1 1 w4 HA5.out HB5.out.size).mono ?_
  rintro e w5 ⟨v5, rfl, hA, ho, _⟩
  have HB6 := Lib.hid (HB5.out.trans (ho.below (HA5.out.up HBB.out) HB5.out.size))
  obtain ⟨s4, hs4⟩ : ∃ s4, crsS s3 1 1 = s4 := ⟨_, rfl⟩
  rw [hs4] at hA
  have HA6 := Lib.hid hA
  have E4 : Hid (s4 = ⟨[97, 98, 99, 0], 4, 3, -1, false⟩) := Lib.hid (by rw [← hs4, E3.out]; kernel_rfl)
  clear hs4 hA ho HA5 HB5 E3
  go_wp2_with fail
  refine (rea_any w.heap.size b _ s4 w5 HA6.out).mono ?_
  rintro e w6 ⟨A, n, c, rfl, hn, hS, hnc, hcm, hAn, hB⟩
  rw [show chkE s4.dn = 0 by rw [E4.out]; rfl]
  have hn4 : n = 4 := by rw [hn, E4.out]; rfl
  subst hn4
  have hS4 : Src w6 A c [97, 98, 99, 0] := by rw [E4.out] at hS; exact hS
  have hst := to_string w6 A c 4 [97, 98, 99, 0] rfl hS4
  rw [show txt [97, 98, 99, 0] = { data := #[97, 98, 99, 0] } by rfl] at hst
  have HB7 := Lib.hid (HB6.out.trans (hB.mono HB6.out.size))
  clear hn hS hnc hcm hAn hB hS4 HA6 HB6 E4
  go_wp2
  go_ret
  exact ⟨rfl, HB7.out⟩
end Go.Proofs.Ytjkpdfdcjhnjdaa
