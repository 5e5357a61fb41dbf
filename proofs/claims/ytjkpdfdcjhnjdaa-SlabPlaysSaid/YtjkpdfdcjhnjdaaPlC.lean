/-
  SlabPlays: the walk.
-/
import Derived.Test.YtjkpdfdcjhnjdaaOpArg
import Derived.Test.YtjkpdfdcjhnjdaaSlF
namespace Go.Proofs.Ytjkpdfdcjhnjdaa
open Go.ChangeShapes Go.WideShapes Go.ChangeAt Go.RowKit Go.Deep
set_option linter.unusedVariables false

theorem i64_wf {x : Int} (h : (Lit.int .i64 x).wf = true) : -9223372036854775808 ≤ x ∧ x ≤ 9223372036854775807 := by
  simp [Lit.wf, IntKind.min, IntKind.max, IntKind.signed, IntKind.bits] at h
  exact ⟨by omega, by omega⟩

set_option maxRecDepth 100000 in
set_option maxHeartbeats 8000000 in
theorem plays_any {H : Type} {enc : TypeId × Value → H} {base : Nat} {spare : Nat → Bool} {held : Bool} (a : Option Addr) (len cap : Nat) (w : World) (hM : FlatRow enc Try.prog w base spare held a 4 len [(0, 3), (1, 3), (2, 3), (3, 27)])
    (hZ : ∀ b off, a = some ⟨b, off, none⟩ → ∀ i, i < len → ∀ ap np cp, w.cell? ⟨b, off + i * 4 + 3, none⟩ = some (.slice ap np cp) → np ≤ 140737488351232) :
    Calls Try.prog 3 #[.slice a len cap] w fun e w' => e = .returned (.bool true) ∧ Below w.heap.size w w' := by
  have HM := Lib.hid hM
  have HSZ := Lib.hid hZ
  have hm2 := hM.2.1
  unfold maxLen at hm2
  clear hM hZ
  go_enter Try.func3, Try.ntmps3
  go_wp2_with fail
  refine (new_any w).mono ?_
  rintro e w1 ⟨b, rfl, hb, hA, hB⟩
  have HA := Lib.hid hA
  have HB := Lib.hid hB
  have HUB := Lib.hid hb
  clear hb hA hB
  go_wp2_with fail
  refine (rnew_any w1 (Of b (.slice none 0 0)) (fun i hi h => by have := HA.out.lt i h; omega)).mono ?_
  rintro e w2 ⟨bm, rfl, hbm, hR, hB⟩
  have HZ0 : Hid (Pr w w2 b (.slice none 0 0) fresh bm) := Lib.hid ⟨HA.out.keep hB, hR, HB.out.trans (hB.mono HB.out.size), HUB.out, Nat.le_trans HB.out.size hbm⟩
  clear hbm hR hB HA HB HUB
  go_wp2_with fail
  go_loopw [5, 6, 7, 12] (fun nn _ _ i wd => ∃ (k : Nat) (v : Value) (s : SS) (N : Nat), k ≤ 60 ∧ i = .int .i64 k ∧ nn = .int .i64 N ∧ N ≤ 524288 ∧ Hid (Pr w wd b v s bm)) (fun _ _ _ i _ => len - (intOf i).toNat)
  case atStart => exact ⟨0, _, _, 0, Nat.zero_le _, rfl, rfl, Nat.zero_le _, HZ0⟩
  case round =>
    clear HZ0
    obtain ⟨k, v, s, N, hk, rfl, rfl, hN, HZ⟩ := hrel
    by_cases hlen : k < len
    · obtain ⟨b0, off, rfl, hb0, cs, hcs, hp⟩ := HM.out.row (i := k) hlen
      obtain ⟨z0, k0, w0⟩ := (hp 0 3 (by simp)).int Try.underlying3
      obtain ⟨z1, k1, w1⟩ := (hp 1 3 (by simp)).int Try.underlying3
      obtain ⟨z2, k2, w2⟩ := (hp 2 3 (by simp)).int Try.underlying3
      obtain ⟨ap, np, cp, k3, dd, pp, hT⟩ := (hp 3 27 (by simp)).slice Try.underlying27
      obtain ⟨l, hl, hS, hmx, hnil⟩ := openB hT
      have e0 : w.cell? ⟨b0, off + k * 4, none⟩ = _ := hcs 0 _ k0
      have e1 := hcs 1 _ k1
      have e2 := hcs 2 _ k2
      have e3 := hcs 3 _ k3
      have hnp := HSZ.out b0 off rfl k hlen ap np cp e3
      rw [← HZ.out.B.cell hb0] at e0 e1 e2 e3
      have HW1 := Lib.hid (i64_wf w1)
      have HLN := Lib.hid hl
      have HS := Lib.hid hS
      have hBo : Below wr.heap.size wr (wr.alloc (.cells #[.int .i64 z0, .int .i64 z1, .int .i64 z2, .slice ap np cp] 29)) := (Below.refl _ _).alloc (Nat.le_refl _) _
      have HZ1 := Lib.hid (HZ.out.keep hBo)
      have O : Hid (Blk (wr.alloc (.cells #[.int .i64 z0, .int .i64 z1, .int .i64 z2, .slice ap np cp] 29)) wr.heap.size 29 [.int .i64 z0, .int .i64 z1, .int .i64 z2, .slice ap np cp]) := Lib.hid (Blk.new wr 29 _)
      clear hp hcs hT hl hS hnil k0 k1 k2 k3 w0 w1 w2 hBo hmx
      have hki : (k : Int) < (len : Int) := by omega
      have hNI : (N : Int) ≤ 524288 := by omega
      have hnI : (np : Int) ≤ 140737488351232 := by omega
      by_cases h60 : k < 60
      · have hk60 : (k : Int) < 60 := by omega
        by_cases hbig : 524288 < N + np
        · have hbI : (524288 : Int) < (N : Int) + (np : Int) := by omega
          clear hbig hnp
          go_wp2_with fail
          refine (awake_any _).mono ?_
          rintro e w9 ⟨rfl, hB9⟩
          have HB9 := Lib.hid (HZ1.out.B.trans (hB9.mono HZ1.out.B.size))
          go_wp2
          go_ret
          exact ⟨rfl, HB9.out⟩
        · have hbI : (N : Int) + (np : Int) ≤ 524288 := by omega
          have HNP : Hid (np ≤ 1048576) := Lib.hid (by omega)
          obtain ⟨N2, hN2⟩ : ∃ N2, N + np = N2 := ⟨_, rfl⟩
          have hN3 : (N : Int) + (np : Int) = (N2 : Int) := by omega
          have HN3 : Hid (N2 ≤ 524288) := Lib.hid (by omega)
          clear hbig hnp HZ hN2
          go_upto_region 8 with fail
          generalize wr.alloc (.cells #[.int .i64 z0, .int .i64 z1, .int .i64 z2, .slice ap np cp] 29) = V at HZ1 O ⊢
          generalize wr.heap.size = go at O ⊢
          have o0 : V.cell? ⟨go, 0, none⟩ = some (.int .i64 z0) := O.out.cell 0
          have o1 : V.cell? ⟨go, 1, none⟩ = some (.int .i64 z1) := O.out.cell 1
          have o2 : V.cell? ⟨go, 2, none⟩ = some (.int .i64 z2) := O.out.cell 2
          have o3 : V.cell? ⟨go, 3, none⟩ = some (.slice ap np cp) := O.out.cell 3
          go_wp2_with fail
          clear o0 o1 o2 o3 O
          refine (does_any w V b v s bm z0 z1 z2 ap np cp l HZ1.out HLN.out HS.out HNP.out HW1.out).mono ?_
          rintro e V2 ⟨v2, s2, rfl, hp2⟩
          have HZ2 := Lib.hid hp2
          clear hp2 HZ1
          go_wp2_with fail
          refine (is_any w V2 b v2 s2 bm HZ2.out).mono ?_
          rintro e V3 ⟨rfl, hp3⟩
          have HZ9 := Lib.hid hp3
          clear hp3 HZ2
          go_wp2
          go_roundw
          case rel => exact ⟨k + 1, v2, s2, N2, by omega, by go_num, rfl, HN3.out, HZ9⟩
          case measure => simp [intOf]; omega
      · have hk60 : (60 : Int) ≤ (k : Int) := by omega
        go_wp2_with fail
        refine (awake_any _).mono ?_
        rintro e w9 ⟨rfl, hB9⟩
        have HB9 := Lib.hid (HZ1.out.B.trans (hB9.mono HZ1.out.B.size))
        go_wp2
        go_ret
        exact ⟨rfl, HB9.out⟩
    · have hlen2 : (len : Int) ≤ (k : Int) := by omega
      go_wp2_with fail
      refine (awake_any _).mono ?_
      rintro e w9 ⟨rfl, hB9⟩
      have HB9 := Lib.hid (HZ.out.B.trans (hB9.mono HZ.out.B.size))
      go_wp2
      go_ret
      exact ⟨rfl, HB9.out⟩
end Go.Proofs.Ytjkpdfdcjhnjdaa
