/-
  An In with too few bytes left, or with an error already: octet's Fail (function 103), next (97), Sum (72), Bad (34), Left (35): a sum of zeros, the error ErrShort, nothing left.
-/
import Derived.Test.YtkonokjhpddbfaaDoorOctInSum
namespace Go.Proofs.YtkonokjhpddbfaaDoor.Oct
open Go.RowKit
set_option linter.unusedVariables false

/-- An In off which too much was asked. -/
def InBad (w : World) (g : Nat) : Prop := Bk w g 130 [.slice none 0 0, .int .i64 9]
/-- An In off which no sum can be taken. -/
def InSh (w : World) (g : Nat) : Prop := InBad w g ∨ ∃ l : List Int, l.length < 32 ∧ InAt w g l
theorem InBad.below {w w' : World} {g : Nat} (h : InBad w g) (hb : Below w.heap.size w w') : InBad w' g := Bk.below h hb (Bk.lt h)
theorem InSh.below {w w' : World} {g : Nat} (h : InSh w g) (hb : Below w.heap.size w w') : InSh w' g := by
  rcases h with h | ⟨l, hl, h⟩
  · exact .inl (h.below hb)
  · exact .inr ⟨l, hl, h.below hb⟩
theorem InSh.lt {w : World} {g : Nat} (h : InSh w g) : g < w.heap.size := by
  rcases h with h | ⟨l, hl, h⟩
  · exact Bk.lt h
  · exact h.lt
theorem InBad.far {w w' : World} {g b : Nat} (h : InBad w g) (hg : w.grownBy w' (some b)) (hb : g ≠ b) : InBad w' g := Bk.grown h hg (by intro he; injection he; omega)

theorem fail_bad (g : Nat) (w : World) (HI : Hid (InBad w g)) : Calls Tryd.prog 103 #[.pointer (some ⟨g, 0, none⟩), .int .i64 9] w fun r w' => r = .returned (.tuple #[]) ∧ w = w' := by
  have c1 := Bk.cell HI.out 1
  go_enter Tryd.func103, Tryd.ntmps103
  go_wp2
  exact bodyPost_ret (v := .tuple #[]) (by simp [results, Tryd.results103, go_sem]) rfl ⟨rfl, rfl⟩
theorem fail_short (g : Nat) (l : List Int) (w : World) (HI : Hid (InAt w g l)) : Calls Tryd.prog 103 #[.pointer (some ⟨g, 0, none⟩), .int .i64 9] w fun r w' => r = .returned (.tuple #[]) ∧ InBad w' g ∧ w.grownBy w' (some g) := by
  obtain ⟨gr, o, c, h1, _⟩ := HI.out.ex
  have c1 := h1.cell 1
  have c0 := h1.cell 0
  have f1 := h1.frozen 1
  have c0' := (h1.set_ 1 (.int .i64 9)).cell 0
  have f0' := (h1.set_ 1 (.int .i64 9)).frozen 0
  have HE : Hid (InBad ((w.setCell ⟨g, 1, none⟩ (.int .i64 9)).setCell ⟨g, 0, none⟩ (.slice none 0 0)) g) := Lib.hid ((h1.set_ 1 (.int .i64 9)).set_ 0 (.slice none 0 0))
  have HG : Hid (w.grownBy ((w.setCell ⟨g, 1, none⟩ (.int .i64 9)).setCell ⟨g, 0, none⟩ (.slice none 0 0)) (some g)) := Lib.hid ((only_set w g 1 _).trans (only_set _ g 0 _))
  clear h1
  go_enter Tryd.func103, Tryd.ntmps103
  go_wp2
  go_end0
  exact ⟨rfl, HE.out, HG.out⟩
theorem next_sh (g : Nat) (w : World) (HI : Hid (InSh w g)) : Calls Tryd.prog 97 #[.pointer (some ⟨g, 0, none⟩), .int .i64 32] w fun r w' => r = .returned (.slice none 0 0) ∧ InBad w' g ∧ w.grownBy w' (some g) := by
  rcases HI.out with hb | ⟨l, hl, hi⟩
  · have c0 := Bk.cell hb 0
    have HB := Lib.hid hb
    clear hb
    go_enter Tryd.func97, Tryd.ntmps97
    go_wp2_with fail
    refine (fail_bad g w HB).mono ?_
    rintro e w1 ⟨rfl, rfl⟩
    go_wp2
    go_ret
    exact ⟨rfl, HB.out, World.grownBy.refl _ _⟩
  · obtain ⟨gr, o, c, h1, _⟩ := hi.ex
    obtain ⟨L, hL⟩ : ∃ L, l.length = L := ⟨_, rfl⟩
    rw [hL] at h1 hl
    have c0 := h1.cell 0
    have l1 : (L : Int) < 32 := by omega
    have HI2 := Lib.hid hi
    clear h1 hi
    go_enter Tryd.func97, Tryd.ntmps97
    go_wp2_with fail
    refine (fail_short g l w HI2).mono ?_
    rintro e w1 ⟨rfl, h2, h3⟩
    have H2 := Lib.hid h2
    have H3 := Lib.hid h3
    clear h2 h3 c0
    go_wp2
    go_ret
    exact ⟨rfl, H2.out, H3.out⟩
theorem bad_bad (g : Nat) (w : World) (HI : Hid (InBad w g)) : Calls Tryd.prog 34 #[.pointer (some ⟨g, 0, none⟩)] w fun r w' => r = .returned (.int .i64 9) ∧ w = w' := by
  have c1 := Bk.cell HI.out 1
  go_enter Tryd.func34, Tryd.ntmps34
  go_wp2
  go_ret
  exact ⟨rfl, rfl⟩
theorem left_bad (g : Nat) (w : World) (HI : Hid (InBad w g)) : Calls Tryd.prog 35 #[.pointer (some ⟨g, 0, none⟩)] w fun r w' => r = .returned (.int .i64 0) ∧ w = w' := by
  have c0 := Bk.cell HI.out 0
  go_enter Tryd.func35, Tryd.ntmps35
  go_wp2
  go_ret
  exact ⟨rfl, rfl⟩

set_option maxRecDepth 100000 in
set_option maxHeartbeats 1000000 in
theorem sum_sh (g : Nat) (w : World) (HI : Hid (InSh w g)) : Calls Tryd.prog 72 #[.pointer (some ⟨g, 0, none⟩)] w fun r w' => r = .returned (.agg zeros) ∧ InBad w' g ∧ w.grownBy w' (some g) := by
  have hcp := copy_none
  have hsl := slice42 (w.heap.size + 1)
  go_enter Tryd.func72, Tryd.ntmps72
  go_wp2_with fail
  rw [zeros_lit]
  have H0 : Hid (Bk ((w.alloc (.cells zeros 36)).alloc (.cells zeros 36)) w.heap.size 36 zeros.toList) := Lib.hid ((Bk.new w 36 zeros.toList).alloc _)
  have H1 : Hid (Bk ((w.alloc (.cells zeros 36)).alloc (.cells zeros 36)) (w.heap.size + 1) 36 zeros.toList) := Lib.hid (by
    have h := Bk.new (w.alloc (.cells zeros 36)) 36 zeros.toList
    rw [World.size_alloc] at h
    exact h)
  have HB : Hid (Below w.heap.size w ((w.alloc (.cells zeros 36)).alloc (.cells zeros 36))) := Lib.hid (((Below.refl _ w).alloc (Nat.le_refl _) (.cells zeros 36)).alloc (by simp) (.cells zeros 36))
  generalize (w.alloc (.cells zeros 36)).alloc (.cells zeros 36) = W at H0 H1 HB ⊢
  have HG0 : Hid (w.grownBy W (some g)) := Lib.hid (Below.grownBy HB.out _)
  have HIW := Lib.hid (HI.out.below HB.out)
  have hgw := HI.out.lt
  have HNX : Hid (∀ X, InSh X g → Calls Tryd.prog 97 #[.pointer (some ⟨g, 0, none⟩), .int .i64 32] X fun e w' => e = .returned (.slice none 0 0) ∧ InBad w' g ∧ X.grownBy w' (some g)) := Lib.hid fun X hX => next_sh g X (Lib.hid hX)
  go_region_held3 (fun w' => True) (trivial)
    (first
      | (go_at_call 97
         ((with_reducible refine (HNX.out _ ?_).mono ?_))
         · exact HIW.out.below (below_drewN (Below.refl _ _) 1)
         rintro e X1 ⟨rfl, hi1, hg1⟩))
  have HG1 : Hid (w.grownBy X1 (some g)) := Lib.hid ((only_drewN HG0.out 1).trans hg1)
  have H01 : Hid (Bk X1 w.heap.size 36 zeros.toList) := Lib.hid (Bk.grown (w := W.drew) H0.out hg1 (by intro he; injection he; omega))
  have H11 : Hid (Bk X1 (w.heap.size + 1) 36 zeros.toList) := Lib.hid (Bk.grown (w := W.drew) H1.out hg1 (by intro he; injection he; omega))
  have HBX := Lib.hid hi1
  clear hg1 hi1 hsl hcp
  have HRG := Lib.hid H11.out.all
  have HS5 : Hid ((Tryd.prog.info? 36).map (·.size) = some zeros.toList.length) := Lib.hid (by kernel_rfl)
  have HS6 : Hid ((Tryd.prog.info? 36).map (·.size) = some zeros.size) := Lib.hid (by kernel_rfl)
  have HO6 : Hid (zeros.all (·.oneCell') = true) := Lib.hid (by kernel_rfl)
  go_wp2_with (first | (refine wpList_load_mid rfl 36 (.tmp 3) rfl (w.heap.size + 1) 0 rfl zeros.toList _ HRG.out Tryd.underlying36 rfl HS5.out ?_) | (refine wpList_store_row rfl 36 (.tmp 2) (.tmp 8) rfl w.heap.size zeros rfl rfl 36 _ H01.out HS6.out rfl HO6.out ?_))
  exact bodyPost_ret (v := .agg zeros) (results_cell_row Tryd.results72 _ _ w.heap.size 36 zeros (0, 0) _ rfl (setRow_heap X1 w.heap.size _ zeros 36 _ H01.out) Tryd.underlying36 rfl HS6.out) rfl ⟨rfl, HBX.out.far (only_setRow _ _ _) (by omega), grown_new HG1.out (only_setRow _ _ _) (Nat.le_refl _)⟩
end Go.Proofs.YtkonokjhpddbfaaDoor.Oct
