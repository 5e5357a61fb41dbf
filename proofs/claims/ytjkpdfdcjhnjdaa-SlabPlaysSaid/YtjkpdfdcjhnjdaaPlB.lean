/-
  SlabPlays: is a slab the document's (10): it is.
-/
import Derived.Test.YtjkpdfdcjhnjdaaPlA
namespace Go.Proofs.Ytjkpdfdcjhnjdaa
open Go.RowKit
set_option linter.unusedVariables false

theorem loo_q (base b : Nat) (v : Value) (s : SS) (w : World) (n : Nat) (h : AtS w base b v s) : Calls Try.prog 18 #[.pointer (some ⟨b, 0, none⟩)] (w.drewN n) fun e w' => e = .returned (.int .i64 (loose s : Int)) ∧ ∃ m, w' = w.drewN m :=
  Calls.quiet_of (loo_any base b v s (w.drewN n) (h.keep (below_drewN (Below.refl _ _) n)))
theorem ste_q (base b : Nat) (v : Value) (s : SS) (w : World) (n : Nat) (h : AtS w base b v s) : Calls Try.prog 19 #[.pointer (some ⟨b, 0, none⟩)] (w.drewN n) fun e w' => e = .returned (.int .i64 s.st) ∧ ∃ m, w' = w.drewN m :=
  Calls.quiet_of_same ((ste_any base b v s (w.drewN n) (h.keep (below_drewN (Below.refl _ _) n))).mono fun e w' ⟨a, b⟩ => ⟨a, b.symm⟩)
theorem dow_q (base b : Nat) (v : Value) (s : SS) (w : World) (n : Nat) (h : AtS w base b v s) : Calls Try.prog 20 #[.pointer (some ⟨b, 0, none⟩)] (w.drewN n) fun e w' => e = .returned (.bool s.dn) ∧ ∃ m, w' = w.drewN m :=
  Calls.quiet_of_same ((dow_any base b v s (w.drewN n) (h.keep (below_drewN (Below.refl _ _) n))).mono fun e w' ⟨a, b⟩ => ⟨a, b.symm⟩)

set_option maxRecDepth 100000 in
set_option maxHeartbeats 8000000 in
theorem is_any (w0 w : World) (b : Nat) (v : Value) (s : SS) (bm : Nat) (h : Pr w0 w b v s bm) :
    Calls Try.prog 10 #[.pointer (some ⟨b, 0, none⟩), .pointer (some ⟨bm, 0, none⟩)] w fun e w' => e = .returned (.bool true) ∧ Pr w0 w' b v s bm := by
  have H := Lib.hid h
  clear h
  go_enter Try.func10, Try.ntmps10
  go_wp2_with fail
  refine (rea_any w0.heap.size b v s w H.out.A).mono ?_
  rintro e w1 ⟨A, n, c, rfl, hn, hS, _, _, hAf, hB⟩
  have H1 := Lib.hid (H.out.keep hB)
  have HS1 := Lib.hid hS
  have HN := Lib.hid hn
  clear hn hS hAf hB H
  go_wp2_with fail
  refine (rrea_any (Of b v) bm s w1 H1.out.R H1.out.A.small).mono ?_
  rintro e V ⟨A2, n2, c2, rfl, hn2, hS2, hB⟩
  have H2 := Lib.hid (H1.out.keep hB)
  have HS3 := Lib.hid (HS1.out.below hB)
  obtain ⟨L, hL⟩ : ∃ L, (if s.dn = true then [] else s.l) = L := ⟨_, rfl⟩
  rw [hL] at hS2 hn2 HS3 HN
  have hx := to_string V A c n L HN.out HS3.out
  have hy := to_string V A2 c2 n2 L hn2 hS2
  have hxq : ∀ q, (convert 27 9 (.slice A n c)).run Try.prog (V.drewN q) = .ok (.string (txt L)) (V.drewN q) := fun q => to_string _ A c n L HN.out (HS3.out.below (below_drewN (Below.refl _ _) q))
  have hyq : ∀ q, (convert 27 9 (.slice A2 n2 c2)).run Try.prog (V.drewN q) = .ok (.string (txt L)) (V.drewN q) := fun q => to_string _ A2 c2 n2 L hn2 (hS2.below (below_drewN (Below.refl _ _) q))
  obtain ⟨⟨vS, vL, hT, hrS, ⟨AL, cL, rfl, hrL, hAL⟩⟩, hoff⟩ := H2.out.R
  have m1 : V.cell? ⟨bm, 1, none⟩ = some (.slice AL (s.l.drop s.k).length cL) := hT.cell 1
  have m3 : V.cell? ⟨bm, 3, none⟩ = some (.int .i64 s.st) := hT.cell 3
  have m4 : V.cell? ⟨bm, 4, none⟩ = some (.bool s.dn) := hT.cell 4
  rw [show (s.l.drop s.k).length = loose s from List.length_drop] at m1
  have HLO := Lib.hid (fun q => loo_q w0.heap.size b v s V q H2.out.A)
  have HST := Lib.hid (fun q => ste_q w0.heap.size b v s V q H2.out.A)
  have HDO := Lib.hid (fun q => dow_q w0.heap.size b v s V q H2.out.A)
  obtain ⟨lo, hlo⟩ : ∃ x, loose s = x := ⟨_, rfl⟩
  obtain ⟨st, hst⟩ : ∃ x, s.st = x := ⟨_, rfl⟩
  obtain ⟨dn, hdn⟩ : ∃ x, s.dn = x := ⟨_, rfl⟩
  obtain ⟨ck, hck⟩ : ∃ x, chkE s.dn = x := ⟨_, rfl⟩
  obtain ⟨T, hTT⟩ : ∃ x, txt L = x := ⟨_, rfl⟩
  rw [hTT] at hx hy hxq hyq
  rw [hlo] at HLO m1
  rw [hst] at HST m3
  rw [hdn] at HDO m4
  rw [hck]
  clear hT hrS hrL hAL hoff hL hS2 hn2 HS3 HN HS1 H1 hB hlo hst hdn hck hTT
  go_wp2_with fail
  go_quiet (first | (go_at_call 18; exact HLO.out _) | (go_at_call 19; exact HST.out _) | (go_at_call 20; exact HDO.out _))
  go_wp2
  go_ret
  exact ⟨rfl, H2.out.keep (below_drewN (Below.refl _ _) _)⟩
end Go.Proofs.Ytjkpdfdcjhnjdaa
