/-
  bytes.Equal (function 29), bytes.Clone (30); a log's Met (22) and Many (23).
-/
import Derived.Test.YtcpjfdaacnkcnaaDoorLogMap
import Derived.Test.YtcpjfdaacnkcnaaDoorApartWalk
import Derived.Lib.SliceRun
import Derived.WalkSpells
namespace Go.Proofs.YtcpjfdaacnkcnaaDoor
open Go.RowKit
set_option linter.unusedVariables false

theorem equal_any (A1 A2 : Option Addr) (c1 c2 n1 n2 b1 b2 : Nat) (x y : List Nat) (w : World) (HS1 : Hid (Src w b1 A1 c1 x)) (HS2 : Hid (Src w b2 A2 c2 y)) (H1 : Hid (x.length = n1)) (H2 : Hid (y.length = n2)) :
    Calls Tryd.prog 29 #[.slice A1 n1 c1, .slice A2 n2 c2] w fun e w' => e = .returned (.bool (decide (x = y))) ∧ w = w' := by
  have q1 := to_string w b1 A1 c1 n1 x H1.out.symm HS1.out
  have q2 := to_string w b2 A2 c2 n2 y H2.out.symm HS2.out
  by_cases hxy : x = y
  · have hd : decide (x = y) = true := by simpa using hxy
    rw [hd]
    rw [← hxy] at q2
    clear hd hxy
    go_enter Tryd.func29, Tryd.ntmps29
    go_wp2
    go_ret
    exact ⟨rfl, rfl⟩
  · have hd : decide (x = y) = false := by simpa using hxy
    rw [hd]
    obtain ⟨u1, hu1⟩ : ∃ u, txt (ints x) = u := ⟨_, rfl⟩
    obtain ⟨u2, hu2⟩ : ∃ u, txt (ints y) = u := ⟨_, rfl⟩
    have hne := txt_ne u1 u2 (by intro h; rw [← hu1, ← hu2] at h; exact hxy (tx_inj x y HS1.out.lt HS2.out.lt h))
    have HNB : Hid ((u1.toList == u2.toList) = false) := Lib.hid (by simpa using hne)
    rw [hu1] at q1
    rw [hu2] at q2
    clear hu1 hu2 hxy hd
    go_enter Tryd.func29, Tryd.ntmps29
    go_wp2
    go_ret
    exact ⟨by show Ending.returned (Value.bool (u1.toList == u2.toList)) = _; rw [HNB.out], rfl⟩

set_option maxRecDepth 100000 in
theorem clone_any (A : Option Addr) (c n b : Nat) (x : List Nat) (w : World) (HS : Hid (Src w b A c x)) (HN : Hid (x.length = n)) (hn : n ≤ 1000000) :
    Calls Tryd.prog 30 #[.slice A n c] w fun e w' => ∃ v, e = .returned v ∧ Own w' w.heap.size v x ∧ Below w.heap.size w w' := by
  cases A with
  | none =>
    have hx : x = [] := by
      rcases HS.out.at_ with h | ⟨g, off, h, _⟩
      · exact h
      · cases h
    subst hx
    obtain rfl : n = 0 := HN.out.symm
    have hnil := fun W => Lib.run_eql_slice_nil (P := Tryd.prog) W 22 5 none 0 c 0 0 Tryd.underlying22
    go_enter Tryd.func30, Tryd.ntmps30
    go_wp2
    go_ret
    exact ⟨_, rfl, Own.nil _ _, Below.refl _ _⟩
  | some ad =>
    have HO0 : Hid (Own (w.alloc (.cells #[] 5)) w.heap.size (.slice (some ⟨w.heap.size, 0, none⟩) 0 0) []) := Lib.hid (World.ownsRow_lit w #[] 0 (Nat.le_refl _) (by unfold maxLen; omega) rfl)
    have HB0 : Hid (Below w.heap.size w (w.alloc (.cells #[] 5))) := Lib.hid ((Below.refl _ _).alloc (Nat.le_refl _) _)
    have HSA := Lib.hid (HS.out.below HB0.out)
    have HL : Hid (([] : List Nat).length + x.length ≤ 140737488355328) := Lib.hid (by rw [HN.out]; simp; omega)
    have hnil := fun W => Lib.run_eql_slice_nil (P := Tryd.prog) W 22 5 (some ad) n c 0 0 Tryd.underlying22
    go_enter Tryd.func30, Tryd.ntmps30
    go_wp2_with (at_builtin; refine wpList_app rfl (.tmp 5) (.tmp 6) rfl w.heap.size b _ [] x rfl HO0.out (some ad) n c rfl HN.out.symm HSA.out HL.out HB0.out.size ?_)
    intro v1 w1 HO1 HG1 HU1
    have HB1 : Hid (Below w.heap.size w w1) := Lib.hid (HB0.out.grown HG1.out HB0.out.size fun g' hg' => (HO0.out.base_ hg').1)
    clear HG1 HU1
    go_wp2
    go_ret
    exact ⟨_, rfl, by simpa using HO1.out, HB1.out⟩

theorem met_any (g : Nat) (mv : Value) (met : Bool) (w : World) (HB : Hid (Blk w g 49 [mv, .bool met])) : Calls Tryd.prog 22 #[.pointer (some ⟨g, 0, none⟩)] w fun e w' => e = .returned (.bool met) ∧ w = w' := by
  have c1 := HB.out.cell 1
  go_enter Tryd.func22, Tryd.ntmps22
  go_wp2
  go_ret
  exact ⟨rfl, rfl⟩
theorem many_none (g : Nat) (met : Bool) (w : World) (HB : Hid (Blk w g 49 [.map none, .bool met])) : Calls Tryd.prog 23 #[.pointer (some ⟨g, 0, none⟩)] w fun e w' => e = .returned (.int .i64 0) ∧ w = w' := by
  have c0 := HB.out.cell 0
  go_enter Tryd.func23, Tryd.ntmps23
  go_wp2
  go_ret
  exact ⟨rfl, rfl⟩
theorem many_any (g b : Nat) (met : Bool) (T : List (List Nat × Value)) (n : Nat) (w : World) (HB : Hid (Blk w g 49 [.map (some b), .bool met])) (HM : Hid (LogMap w b T)) (HN : Hid (T.length = n)) : Calls Tryd.prog 23 #[.pointer (some ⟨g, 0, none⟩)] w fun e w' => e = .returned (.int .i64 (n : Int)) ∧ w = w' := by
  have c0 := HB.out.cell 0
  obtain ⟨es, clock, hh, hs⟩ := HM.out.len
  rw [HN.out] at hs
  have hl : (Builtin.len_ #[47] 3 #[.map (some b)]).run Tryd.prog w = .ok (.int .i64 (n : Int)) w := by
    rw [run_len_map w 47 3 b es clock (by kernel_rfl) hh, hs]
    rfl
  clear hs hh
  go_enter Tryd.func23, Tryd.ntmps23
  go_wp2
  go_ret
  exact ⟨rfl, rfl⟩
end Go.Proofs.YtcpjfdaacnkcnaaDoor
