/-
  The document's In of any kind: what is left from a place on, what is wrong: Raw (98).
-/
import Derived.Test.YtkonokjhpddbfaaDoorRngBE
import Derived.Test.YtkonokjhpddbfaaDoorGG
namespace Go.Proofs.YtkonokjhpddbfaaDoor
open Go.RowKit
set_option linter.unusedVariables false

/-- The document's In at a place, with what is wrong. -/
structure RefG (w : World) (g : Nat) (A : Option Addr) (c : Nat) (l : List Nat) (at_ e0 : Nat) : Prop where
  blk : Blk w g 68 [.slice A l.length c, .int .i64 (at_ : Int), .int .i64 (e0 : Int)]
  src : Src w g A c l
  cap : c ≤ 9223372036854775807
  old : l ≠ [] → ∀ a, A = some a → a.block < g
  ple : at_ ≤ l.length
theorem RefG.below {w w' : World} {g : Nat} {A : Option Addr} {c : Nat} {l : List Nat} {at_ e0 : Nat} (h : RefG w g A c l at_ e0) (hb : Below w.heap.size w w') : RefG w' g A c l at_ e0 := ⟨h.blk.below hb h.blk.lt, h.src.below hb, h.cap, h.old, h.ple⟩
theorem RefG.far {w w' : World} {g n : Nat} {A : Option Addr} {c : Nat} {l : List Nat} {at_ e0 : Nat} (h : RefG w g A c l at_ e0) (hg : w.grownBy w' (some n)) (hn : g < n) : RefG w' g A c l at_ e0 :=
  ⟨h.blk.grown hg (by intro he; injection he; omega), h.src.farG hg (fun hl a ha => by have := h.old hl a ha; omega), h.cap, h.old, h.ple⟩
def RawG (n : Nat) (w : World) (g : Nat) (A : Option Addr) (c : Nat) (l : List Nat) (at_ e0 : Nat) (e : Ending) (w' : World) : Prop :=
  (∃ A' c', e = .returned (.slice A' (if e0 = 0 ∧ at_ + n ≤ l.length then n else 0) c') ∧ (e0 = 0 ∧ at_ + n ≤ l.length → ∀ b, b < w.heap.size → Src w' b A' c' ((l.drop at_).take n))) ∧ RefG w' g A c l (if e0 = 0 ∧ at_ + n ≤ l.length then at_ + n else at_) (if e0 ≠ 0 then e0 else if at_ + n ≤ l.length then 0 else 9) ∧ w.grownBy w' (some g)
set_option maxRecDepth 100000 in
set_option maxHeartbeats 1000000 in
theorem rawG_any (n : Nat) (hn0 : 0 < n) (hn32 : n ≤ 32) (g : Nat) (A : Option Addr) (c : Nat) (l : List Nat) (at_ e0 : Nat) (w : World) (HR : Hid (RefG w g A c l at_ e0)) (hl : l.length ≤ 5000) :
    Calls Tryd.prog 98 #[.pointer (some ⟨g, 0, none⟩), .int .i64 (n : Int)] w (RawG n w g A c l at_ e0) := by
  obtain ⟨L, hL⟩ : ∃ L, l.length = L := ⟨_, rfl⟩
  have hb := HR.out.blk
  have h0 := HR.out.ple
  rw [hL] at hb hl h0
  have HLL := Lib.hid hL
  have nI : (n : Int) ≤ 32 := by omega
  have nP : (0 : Int) < (n : Int) := by omega
  by_cases he : e0 = 0
  · subst he
    have he : (0 : Nat) = 0 := rfl
    have hb' : Blk w g 68 [.slice A L c, .int .i64 (at_ : Int), .int .i64 0] := hb
    have HM := Lib.hid hb'
    have HMm := HM
    have HWm : Hid (Below w.heap.size w w) := Lib.hid (Below.refl _ _)
    have c2 := hb'.cell 2
    have a1 : (at_ : Int) ≤ (L : Int) := by omega
    have l1 : (L : Int) ≤ 5000 := by omega
    have hat : at_ = at_ := rfl
    clear hb hb'
    go_enter Tryd.func98, Tryd.ntmps98
    go_upto_region 3 with fail
    by_cases hs : at_ + n ≤ L
    · have wr1 : IntKind.i64.wrap ((L : Int) - (at_ : Int)) = (L : Int) - (at_ : Int) := IntWalk.i64_in _ (by omega)
      have hcmp : decide ((L : Int) - (at_ : Int) < (n : Int)) = false := by simp; omega
      have HMX0 : Hid (Blk w.drew g 68 [.slice A L c, .int .i64 (at_ : Int), .int .i64 0]) := Lib.hid (HMm.out.below (below_drewN (Below.refl _ _) 1) HMm.out.lt)
      have HWX0 : Hid (Below w.heap.size w w.drew) := Lib.hid (below_drewN HWm.out 1)
      refine wp_region_held_drew (S := fun w' => Blk w' g 68 [.slice A L c, .int .i64 (at_ : Int), .int .i64 0]) (by kernel_rfl) (HMX0.out) (fun hHeld => ?_)
      generalize w.drew = X0 at hHeld HMX0 HWX0 ⊢
      refine wpAnyH_take (i := 0) (v := .int .i64 (n : Int)) rfl (by kernel_rfl) (by kernel_rfl) (by kernel_rfl) (fun _ _ _ h => h) (Or.inl ⟨by rfl, fun w _ => by rfl⟩) hHeld ?_
      show wpAnyH _ _ _ _ _ _ _ (Act.put _ (some 10) _) _
      simp only [Act.put, List.setIfInBounds_toArray, List.set_cons_zero, List.set_cons_succ]
      refine wpAnyH_take (i := 1) (v := .pointer (some ⟨g, 0, none⟩)) rfl (by kernel_rfl) (by kernel_rfl) (by kernel_rfl) (fun _ _ _ h => h) (Or.inl ⟨by rfl, fun w _ => by rfl⟩) hHeld ?_
      show wpAnyH _ _ _ _ _ _ _ (Act.put _ (some 11) _) _
      simp only [Act.put, List.setIfInBounds_toArray, List.set_cons_zero, List.set_cons_succ]
      refine wpAnyH_take (i := 2) (v := .pointer (some ⟨g, 0, none⟩)) rfl (by kernel_rfl) (by kernel_rfl) (by kernel_rfl) (fun _ _ _ h => h) (Or.inl ⟨by rfl, by intro w' _; go_simp⟩) hHeld ?_
      show wpAnyH _ _ _ _ _ _ _ (Act.put _ (some 12) _) _
      simp only [Act.put, List.setIfInBounds_toArray, List.set_cons_zero, List.set_cons_succ]
      refine wpAnyH_take (i := 3) (v := .pointer (some ⟨g, 0, none⟩)) rfl (by kernel_rfl) (by kernel_rfl) (by kernel_rfl) (fun _ _ _ h => h) (Or.inl ⟨by rfl, by intro w' _; go_simp⟩) hHeld ?_
      show wpAnyH _ _ _ _ _ _ _ (Act.put _ (some 13) _) _
      simp only [Act.put, List.setIfInBounds_toArray, List.set_cons_zero, List.set_cons_succ]
      refine wpAnyH_take (i := 4) (v := .slice A L c) rfl (by kernel_rfl) (by kernel_rfl) (by kernel_rfl) (fun _ _ _ h => h) (Or.inl ⟨by rfl, by intro w' h; have hc := Blk.cell h 0; go_simp⟩) hHeld ?_
      show wpAnyH _ _ _ _ _ _ _ (Act.put _ (some 14) _) _
      simp only [Act.put, List.setIfInBounds_toArray, List.set_cons_zero, List.set_cons_succ]
      refine wpAnyH_take (i := 5) (v := .int .i64 (L : Int)) rfl (by kernel_rfl) (by kernel_rfl) (by kernel_rfl) (fun _ _ _ h => h) (Or.inl ⟨by rfl, by intro w' _; go_simp⟩) hHeld ?_
      show wpAnyH _ _ _ _ _ _ _ (Act.put _ (some 15) _) _
      simp only [Act.put, List.setIfInBounds_toArray, List.set_cons_zero, List.set_cons_succ]
      refine wpAnyH_take (i := 6) (v := .pointer (some ⟨g, 0, none⟩)) rfl (by kernel_rfl) (by kernel_rfl) (by kernel_rfl) (fun _ _ _ h => h) (Or.inl ⟨by rfl, fun w _ => by rfl⟩) hHeld ?_
      show wpAnyH _ _ _ _ _ _ _ (Act.put _ (some 16) _) _
      simp only [Act.put, List.setIfInBounds_toArray, List.set_cons_zero, List.set_cons_succ]
      refine wpAnyH_take (i := 7) (v := .pointer (some ⟨g, 0, none⟩)) rfl (by kernel_rfl) (by kernel_rfl) (by kernel_rfl) (fun _ _ _ h => h) (Or.inl ⟨by rfl, by intro w' _; go_simp⟩) hHeld ?_
      show wpAnyH _ _ _ _ _ _ _ (Act.put _ (some 17) _) _
      simp only [Act.put, List.setIfInBounds_toArray, List.set_cons_zero, List.set_cons_succ]
      refine wpAnyH_take (i := 8) (v := .pointer (some ⟨g, 1, none⟩)) rfl (by kernel_rfl) (by kernel_rfl) (by kernel_rfl) (fun _ _ _ h => h) (Or.inl ⟨by rfl, by intro w' _; go_simp⟩) hHeld ?_
      show wpAnyH _ _ _ _ _ _ _ (Act.put _ (some 18) _) _
      simp only [Act.put, List.setIfInBounds_toArray, List.set_cons_zero, List.set_cons_succ]
      refine wpAnyH_take (i := 9) (v := .int .i64 (at_ : Int)) rfl (by kernel_rfl) (by kernel_rfl) (by kernel_rfl) (fun _ _ _ h => h) (Or.inl ⟨by rfl, by intro w' h; have hc := Blk.cell h 1; go_simp⟩) hHeld ?_
      show wpAnyH _ _ _ _ _ _ _ (Act.put _ (some 19) _) _
      simp only [Act.put, List.setIfInBounds_toArray, List.set_cons_zero, List.set_cons_succ]
      refine wpAnyH_take (i := 10) (v := .int .i64 ((L : Int) - (at_ : Int))) rfl (by kernel_rfl) (by kernel_rfl) (by kernel_rfl) (fun _ _ _ h => h) (Or.inl ⟨by rfl, by intro w' _; go_simp⟩) hHeld ?_
      show wpAnyH _ _ _ _ _ _ _ (Act.put _ (some 20) _) _
      simp only [Act.put, List.setIfInBounds_toArray, List.set_cons_zero, List.set_cons_succ]
      refine wpAnyH_take (i := 11) (v := .bool false) rfl (by kernel_rfl) (by kernel_rfl) (by kernel_rfl) (fun _ _ _ h => h) (Or.inl ⟨by rfl, by intro w' _; go_simp⟩) hHeld ?_
      show wpAnyH _ _ _ _ _ _ _ (Act.put _ (some 21) _) _
      simp only [Act.put, List.setIfInBounds_toArray, List.set_cons_zero, List.set_cons_succ]
      refine wpAnyH_done (by kernel_rfl) ?_ _
      clear hHeld
      have hsrc := HR.out.src
      rcases hsrc.at_ with hn | ⟨b, off, hA, hb1, hb2, hb3⟩
      · exfalso
        have h9 := HLL.out
        rw [hn] at h9
        simp at h9
        omega
      subst hA
      have c1b := HMX0.out.cell 1
      have f1b := HMX0.out.frozen 1
      have HM6 : Hid (Blk (X0.setCell ⟨g, 1, none⟩ (.int .i64 ((at_ : Int) + (n : Int)))) g 68 [.slice (some ⟨b, off, none⟩) L c, .int .i64 ((at_ : Int) + (n : Int)), .int .i64 0]) := Lib.hid (HMX0.out.set_ 1 (.int .i64 ((at_ : Int) + (n : Int))))
      have HG6 : Hid (w.grownBy (X0.setCell ⟨g, 1, none⟩ (.int .i64 ((at_ : Int) + (n : Int)))) (some g)) := Lib.hid (only_setCell (Oct.only_below (only_refl w (some g)) HWX0.out) (.inl rfl) _)
      have HS6 := Lib.hid (HR.out.src.grown HG6.out)
      have cL : L ≤ c := by have := hsrc.le; rw [HLL.out] at this; exact this
      have hwin := window b off L c at_ (at_ + n) (by omega) (by omega)
      rw [show at_ + n - at_ = n by omega, show ((at_ + n : Nat) : Int) = (at_ : Int) + (n : Int) from rfl] at hwin
      have hsub : IntKind.i64.wrap (at_ : Int) = (at_ : Int) := IntWalk.i64_in _ (by omega)
      have HN32 : Hid (n = ((l.drop at_).take n).length) := Lib.hid (by rw [List.length_take, List.length_drop, HLL.out]; omega)
      have HM32 : Hid (([] : List Nat).length + ((l.drop at_).take n).length ≤ 140737488355328) := Lib.hid (by rw [← HN32.out]; simp; omega)
      have HB32 : Hid (∀ x ∈ [] ++ (l.drop at_).take n, x < 256) := Lib.hid (fun x hx => hsrc.lt x (List.mem_of_mem_drop (List.mem_of_mem_take (by simpa using hx))))
      have HWS : Hid (∀ X, Src X g (some ⟨b, off, none⟩) c l → Src X g (some ⟨b, off + at_, none⟩) (c - at_) ((l.drop at_).take n)) := Lib.hid fun X h => by
        refine ⟨by rw [← HN32.out]; omega, .inr ⟨b, off + at_, rfl, ?_, ?_, fun i hi => ?_⟩, fun x hx => h.lt x (List.mem_of_mem_drop (List.mem_of_mem_take hx))⟩
        · rcases h.at_ with hn | ⟨b2, o2, hA2, hq1, hq2, hq3⟩
          · exfalso; have h9 := HLL.out; rw [hn] at h9; simp at h9; omega
          · injection hA2 with hA2; injection hA2 with hA2; subst hA2; exact hq1
        · exact hb2
        · rcases h.at_ with hn | ⟨b2, o2, hA2, hq1, hq2, hq3⟩
          · exfalso; have h9 := HLL.out; rw [hn] at h9; simp at h9; omega
          · injection hA2 with hA2; injection hA2 with hA2 hA3; subst hA2; subst hA3
            rw [← HN32.out] at hi
            rw [Nat.add_assoc, hq3 (at_ + i) (by rw [HLL.out]; omega)]
            simp only [List.getD, List.getElem?_take, hi, if_true, List.getElem?_drop]
      have HWS2 : Hid (∀ (X Y : World) (n : Nat), Src X g (some ⟨b, off, none⟩) c l → Below n X Y → b < n → Src Y g (some ⟨b, off, none⟩) c l) := Lib.hid (fun X Y n h hB hbn => ⟨h.le, by
        rcases h.at_ with hn | ⟨b2, o2, hA2, hq1, hq2, hq3⟩
        · exact .inl hn
        · injection hA2 with hA2; injection hA2 with hA2 hA3; subst hA2; subst hA3
          exact .inr ⟨b, off, rfl, Nat.lt_of_lt_of_le hq1 hB.size, hq2, fun i hi => by rw [hB.cell (p := ⟨b, off + i, none⟩) hbn]; exact hq3 i hi⟩, h.lt⟩)
      go_upto_region 7 with fail
      generalize X0.setCell ⟨g, 1, none⟩ (.int .i64 ((at_ : Int) + (n : Int))) = w6 at HM6 HG6 HS6 ⊢
      have HWs6 : Hid (Below w6.heap.size w6 w6) := Lib.hid (Below.refl _ _)
      have HMs6 := HM6
      have HSs6 := HS6
      clear HMX0 HWX0
      have HMX0 : Hid (Blk w6.drew g 68 [.slice (some ⟨b, off, none⟩) L c, .int .i64 ((at_ : Int) + (n : Int)), .int .i64 0]) := Lib.hid (HMs6.out.below (below_drewN (Below.refl _ _) 1) HMs6.out.lt)
      have HSX0 : Hid (Src w6.drew g (some ⟨b, off, none⟩) c l) := Lib.hid (HSs6.out.below (below_drewN (Below.refl _ _) 1))
      have HWX0 : Hid (Below w6.heap.size w6 w6.drew) := Lib.hid (below_drewN HWs6.out 1)
      refine wp_region_held_drew (S := fun w' => Blk w' g 68 [.slice (some ⟨b, off, none⟩) L c, .int .i64 ((at_ : Int) + (n : Int)), .int .i64 0]) (by kernel_rfl) (HMX0.out) (fun hHeld => ?_)
      generalize w6.drew = X0 at hHeld HMX0 HSX0 HWX0 ⊢
      refine wpAnyH_take (i := 1) (v := .pointer (some ⟨g, 0, none⟩)) rfl (by kernel_rfl) (by kernel_rfl) (by kernel_rfl) (fun _ _ _ h => h) (Or.inl ⟨by rfl, fun w _ => by rfl⟩) hHeld ?_
      show wpAnyH _ _ _ _ _ _ _ (Act.put _ (some 35) _) _
      simp only [Act.put, List.setIfInBounds_toArray, List.set_cons_zero, List.set_cons_succ]
      refine wpAnyH_take (i := 2) (v := .pointer (some ⟨g, 0, none⟩)) rfl (by kernel_rfl) (by kernel_rfl) (by kernel_rfl) (fun _ _ _ h => h) (Or.inl ⟨by rfl, by intro w' _; go_simp⟩) hHeld ?_
      show wpAnyH _ _ _ _ _ _ _ (Act.put _ (some 36) _) _
      simp only [Act.put, List.setIfInBounds_toArray, List.set_cons_zero, List.set_cons_succ]
      refine wpAnyH_take (i := 3) (v := .pointer (some ⟨g, 0, none⟩)) rfl (by kernel_rfl) (by kernel_rfl) (by kernel_rfl) (fun _ _ _ h => h) (Or.inl ⟨by rfl, by intro w' _; go_simp⟩) hHeld ?_
      show wpAnyH _ _ _ _ _ _ _ (Act.put _ (some 37) _) _
      simp only [Act.put, List.setIfInBounds_toArray, List.set_cons_zero, List.set_cons_succ]
      refine wpAnyH_take (i := 4) (v := .slice (some ⟨b, off, none⟩) L c) rfl (by kernel_rfl) (by kernel_rfl) (by kernel_rfl) (fun _ _ _ h => h) (Or.inl ⟨by rfl, by intro w' h; have hc := Blk.cell h 0; go_simp⟩) hHeld ?_
      show wpAnyH _ _ _ _ _ _ _ (Act.put _ (some 38) _) _
      simp only [Act.put, List.setIfInBounds_toArray, List.set_cons_zero, List.set_cons_succ]
      refine wpAnyH_take (i := 5) (v := .pointer (some ⟨g, 0, none⟩)) rfl (by kernel_rfl) (by kernel_rfl) (by kernel_rfl) (fun _ _ _ h => h) (Or.inl ⟨by rfl, fun w _ => by rfl⟩) hHeld ?_
      show wpAnyH _ _ _ _ _ _ _ (Act.put _ (some 39) _) _
      simp only [Act.put, List.setIfInBounds_toArray, List.set_cons_zero, List.set_cons_succ]
      refine wpAnyH_take (i := 6) (v := .pointer (some ⟨g, 0, none⟩)) rfl (by kernel_rfl) (by kernel_rfl) (by kernel_rfl) (fun _ _ _ h => h) (Or.inl ⟨by rfl, by intro w' _; go_simp⟩) hHeld ?_
      show wpAnyH _ _ _ _ _ _ _ (Act.put _ (some 40) _) _
      simp only [Act.put, List.setIfInBounds_toArray, List.set_cons_zero, List.set_cons_succ]
      refine wpAnyH_take (i := 7) (v := .pointer (some ⟨g, 1, none⟩)) rfl (by kernel_rfl) (by kernel_rfl) (by kernel_rfl) (fun _ _ _ h => h) (Or.inl ⟨by rfl, by intro w' _; go_simp⟩) hHeld ?_
      show wpAnyH _ _ _ _ _ _ _ (Act.put _ (some 41) _) _
      simp only [Act.put, List.setIfInBounds_toArray, List.set_cons_zero, List.set_cons_succ]
      refine wpAnyH_take (i := 8) (v := .int .i64 ((at_ : Int) + (n : Int))) rfl (by kernel_rfl) (by kernel_rfl) (by kernel_rfl) (fun _ _ _ h => h) (Or.inl ⟨by rfl, by intro w' h; have hc := Blk.cell h 1; go_simp⟩) hHeld ?_
      show wpAnyH _ _ _ _ _ _ _ (Act.put _ (some 42) _) _
      simp only [Act.put, List.setIfInBounds_toArray, List.set_cons_zero, List.set_cons_succ]
      refine wpAnyH_take (i := 9) (v := .int .i64 (n : Int)) rfl (by kernel_rfl) (by kernel_rfl) (by kernel_rfl) (fun _ _ _ h => h) (Or.inl ⟨by rfl, fun w _ => by rfl⟩) hHeld ?_
      show wpAnyH _ _ _ _ _ _ _ (Act.put _ (some 43) _) _
      simp only [Act.put, List.setIfInBounds_toArray, List.set_cons_zero, List.set_cons_succ]
      refine wpAnyH_take (i := 10) (v := .int .i64 (at_ : Int)) rfl (by kernel_rfl) (by kernel_rfl) (by kernel_rfl) (fun _ _ _ h => h) (Or.inl ⟨by rfl, by intro w' _; go_simp⟩) hHeld ?_
      show wpAnyH _ _ _ _ _ _ _ (Act.put _ (some 44) _) _
      simp only [Act.put, List.setIfInBounds_toArray, List.set_cons_zero, List.set_cons_succ]
      refine wpAnyH_take (i := 11) (v := .pointer (some ⟨g, 0, none⟩)) rfl (by kernel_rfl) (by kernel_rfl) (by kernel_rfl) (fun _ _ _ h => h) (Or.inl ⟨by rfl, fun w _ => by rfl⟩) hHeld ?_
      show wpAnyH _ _ _ _ _ _ _ (Act.put _ (some 45) _) _
      simp only [Act.put, List.setIfInBounds_toArray, List.set_cons_zero, List.set_cons_succ]
      refine wpAnyH_take (i := 12) (v := .pointer (some ⟨g, 0, none⟩)) rfl (by kernel_rfl) (by kernel_rfl) (by kernel_rfl) (fun _ _ _ h => h) (Or.inl ⟨by rfl, by intro w' _; go_simp⟩) hHeld ?_
      show wpAnyH _ _ _ _ _ _ _ (Act.put _ (some 46) _) _
      simp only [Act.put, List.setIfInBounds_toArray, List.set_cons_zero, List.set_cons_succ]
      refine wpAnyH_take (i := 13) (v := .pointer (some ⟨g, 1, none⟩)) rfl (by kernel_rfl) (by kernel_rfl) (by kernel_rfl) (fun _ _ _ h => h) (Or.inl ⟨by rfl, by intro w' _; go_simp⟩) hHeld ?_
      show wpAnyH _ _ _ _ _ _ _ (Act.put _ (some 47) _) _
      simp only [Act.put, List.setIfInBounds_toArray, List.set_cons_zero, List.set_cons_succ]
      refine wpAnyH_take (i := 14) (v := .int .i64 ((at_ : Int) + (n : Int))) rfl (by kernel_rfl) (by kernel_rfl) (by kernel_rfl) (fun _ _ _ h => h) (Or.inl ⟨by rfl, by intro w' h; have hc := Blk.cell h 1; go_simp⟩) hHeld ?_
      show wpAnyH _ _ _ _ _ _ _ (Act.put _ (some 48) _) _
      simp only [Act.put, List.setIfInBounds_toArray, List.set_cons_zero, List.set_cons_succ]
      refine wpAnyH_take (i := 15) (v := .slice (some ⟨b, off + at_, none⟩) n (c - at_)) rfl (by kernel_rfl) (by kernel_rfl) (by kernel_rfl) (fun _ _ _ h => h) (Or.inl ⟨by rfl, by intro w' _; go_simp⟩) hHeld ?_
      show wpAnyH _ _ _ _ _ _ _ (Act.put _ (some 49) _) _
      simp only [Act.put, List.setIfInBounds_toArray, List.set_cons_zero, List.set_cons_succ]
      refine wpAnyH_ready (rs := [0]) (by kernel_rfl) (by simp) ?_
      refine AllReadyH.cons rfl (fun K hK => ?_) AllReadyH.nil
      refine step_lay8 rfl 30 0 #[] rfl #[] (by simp [Act.eval]) #[] 5 (by kernel_rfl) ?_
      have hB : Below X0.heap.size X0 (X0.alloc (.cells #[] 5)) := (Below.refl _ _).alloc (Nat.le_refl _) _
      have HWX1 := Lib.hid (HWX0.out.trans (hB.mono HWX0.out.size))
      have HMX1 := Lib.hid (HMX0.out.below hB HMX0.out.lt)
      have HSX1 := Lib.hid (HSX0.out.below hB)
      have HEX1 : Hid (Blk (X0.alloc (.cells #[] 5)) X0.heap.size 5 []) := Lib.hid (Blk.new _ _ _)
      have HOE : Hid (Own (X0.alloc (.cells #[] 5)) X0.heap.size (.slice (some ⟨X0.heap.size, 0, none⟩) 0 0) []) := Lib.hid (Own.ofOct (Own.none_ X0))
      have hX0 : w6.heap.size ≤ X0.heap.size := HWX0.out.size
      clear hB
      refine hK.out _ _ (HMX1.out) (fun hHeld => ?_)
      generalize (X0.alloc (.cells #[] 5)) = X1 at hHeld HWX1 HMX1 HSX1 HEX1 HOE ⊢
      clear hK K
      show wpAnyH _ _ _ _ _ _ _ (Act.put _ (some 34) _) _
      simp only [Act.put, List.setIfInBounds_toArray, List.set_cons_zero, List.set_cons_succ]
      refine wpAnyH_ready (rs := [16]) (by kernel_rfl) (by simp) ?_
      refine AllReadyH.cons rfl (fun K hK => ?_) AllReadyH.nil
      refine step_app8 rfl (.tmp 34) (.tmp 49) rfl X0.heap.size g (.slice (some ⟨X0.heap.size, 0, none⟩) 0 0) [] ((l.drop at_).take n) rfl HOE.out (some ⟨b, off + at_, none⟩) n (c - at_) rfl HN32.out (HWS.out _ HSX1.out) HM32.out (by have := HWX1.out.size; have := HEX1.out.lt; omega) ?_
      intro v9 X2 HO9 HG9a
      have HBw : Hid (Below X0.heap.size X1 X2) := Lib.hid (Oct.grown_below HG9a.out (by have := HEX1.out.lt; omega) (by intro gg hgg; have h5 : X0.heap.size = gg := (by simpa [Value.ownBlock] using hgg); omega))
      have HMX2 := Lib.hid (HMX1.out.below HBw.out (by have := HM6.out.lt; omega))
      have HSX2 : Hid (Src X2 g (some ⟨b, off, none⟩) c l) := Lib.hid (HWS2.out _ _ _ HSX1.out HBw.out (by have := HG6.out.size; omega))
      have HGwX2 : Hid (w.grownBy X2 (some g)) := Lib.hid (grown_new' (Oct.only_below HG6.out HWX1.out) HG9a.out (by intro gg hgg; have h5 : X0.heap.size = gg := (by simpa [Value.ownBlock] using hgg); have := HG6.out.size; omega))
      have HWX2 : Hid True := Lib.hid trivial
      obtain ⟨A9, c9, hv9, hc9, hs9⟩ := HO9.out.src (b := g) (by intro he; have h1 := (World.ownsRow.lt HO9.out g he).1; have := HM6.out.lt; omega) (HB32.out)
      rw [List.nil_append, ← HN32.out] at hv9
      rw [List.nil_append] at hs9
      subst hv9
      have HS9 : Hid (∀ bb, bb < w.heap.size → Src X2 bb A9 c9 ((l.drop at_).take n)) := Lib.hid fun bb hbb => by
        obtain ⟨A8, c8, hv8, _, hs8⟩ := HO9.out.src (b := bb) (by intro he; have h1 := (World.ownsRow.lt HO9.out bb he).1; have := HG6.out.size; omega) HB32.out
        injection hv8 with q1 q2 q3
        subst q1
        subst q3
        exact hs8
      clear hs9 HO9 HG9a HBw HEX1 HOE
      refine hK.out _ _ (HMX2.out) (fun hHeld => ?_)
      clear hK K
      show wpAnyH _ _ _ _ _ _ _ (Act.put _ (some 50) _) _
      simp only [Act.put, List.setIfInBounds_toArray, List.set_cons_zero, List.set_cons_succ]
      refine wpAnyH_take (i := 17) (v := .slice A9 n c9) rfl (by kernel_rfl) (by kernel_rfl) (by kernel_rfl) (fun _ _ _ h => h) (Or.inl ⟨by rfl, fun w _ => by rfl⟩) hHeld ?_
      show wpAnyH _ _ _ _ _ _ _ (Act.put _ (some 4) _) _
      simp only [Act.put, List.setIfInBounds_toArray, List.set_cons_zero, List.set_cons_succ]
      refine wpAnyH_done (by kernel_rfl) ?_ _
      clear hHeld
      have HE9 : Hid (RefG X2 g (some ⟨b, off, none⟩) c l (at_ + n) 0) := Lib.hid ⟨by rw [HLL.out]; exact HMX2.out, HSX2.out, HR.out.cap, HR.out.old, by rw [HLL.out]; exact hs⟩
      have HG9 : Hid (w.grownBy X2 (some g)) := HGwX2
      go_wp2
      go_ret
      have HS2 : Hid ((0 : Nat) = 0 ∧ at_ + n ≤ l.length) := Lib.hid ⟨rfl, by rw [HLL.out]; omega⟩
      exact ⟨⟨A9, c9, by rw [if_pos HS2.out] <;> rfl, fun _ => HS9.out⟩, by rw [if_pos HS2.out, if_neg (fun h => h rfl), if_pos HS2.out.2]; exact HE9.out, HG9.out⟩
    · have wr1 : IntKind.i64.wrap ((L : Int) - (at_ : Int)) = (L : Int) - (at_ : Int) := IntWalk.i64_in _ (by omega)
      have hcmp : decide ((L : Int) - (at_ : Int) < (n : Int)) = true := by simp; omega
      have HMX0 : Hid (Blk w.drew g 68 [.slice A L c, .int .i64 (at_ : Int), .int .i64 0]) := Lib.hid (HMm.out.below (below_drewN (Below.refl _ _) 1) HMm.out.lt)
      have HWX0 : Hid (Below w.heap.size w w.drew) := Lib.hid (below_drewN HWm.out 1)
      refine wp_region_held_drew (S := fun w' => Blk w' g 68 [.slice A L c, .int .i64 (at_ : Int), .int .i64 0]) (by kernel_rfl) (HMX0.out) (fun hHeld => ?_)
      generalize w.drew = X0 at hHeld HMX0 HWX0 ⊢
      refine wpAnyH_take (i := 0) (v := .int .i64 (n : Int)) rfl (by kernel_rfl) (by kernel_rfl) (by kernel_rfl) (fun _ _ _ h => h) (Or.inl ⟨by rfl, fun w _ => by rfl⟩) hHeld ?_
      show wpAnyH _ _ _ _ _ _ _ (Act.put _ (some 10) _) _
      simp only [Act.put, List.setIfInBounds_toArray, List.set_cons_zero, List.set_cons_succ]
      refine wpAnyH_take (i := 1) (v := .pointer (some ⟨g, 0, none⟩)) rfl (by kernel_rfl) (by kernel_rfl) (by kernel_rfl) (fun _ _ _ h => h) (Or.inl ⟨by rfl, fun w _ => by rfl⟩) hHeld ?_
      show wpAnyH _ _ _ _ _ _ _ (Act.put _ (some 11) _) _
      simp only [Act.put, List.setIfInBounds_toArray, List.set_cons_zero, List.set_cons_succ]
      refine wpAnyH_take (i := 2) (v := .pointer (some ⟨g, 0, none⟩)) rfl (by kernel_rfl) (by kernel_rfl) (by kernel_rfl) (fun _ _ _ h => h) (Or.inl ⟨by rfl, by intro w' _; go_simp⟩) hHeld ?_
      show wpAnyH _ _ _ _ _ _ _ (Act.put _ (some 12) _) _
      simp only [Act.put, List.setIfInBounds_toArray, List.set_cons_zero, List.set_cons_succ]
      refine wpAnyH_take (i := 3) (v := .pointer (some ⟨g, 0, none⟩)) rfl (by kernel_rfl) (by kernel_rfl) (by kernel_rfl) (fun _ _ _ h => h) (Or.inl ⟨by rfl, by intro w' _; go_simp⟩) hHeld ?_
      show wpAnyH _ _ _ _ _ _ _ (Act.put _ (some 13) _) _
      simp only [Act.put, List.setIfInBounds_toArray, List.set_cons_zero, List.set_cons_succ]
      refine wpAnyH_take (i := 4) (v := .slice A L c) rfl (by kernel_rfl) (by kernel_rfl) (by kernel_rfl) (fun _ _ _ h => h) (Or.inl ⟨by rfl, by intro w' h; have hc := Blk.cell h 0; go_simp⟩) hHeld ?_
      show wpAnyH _ _ _ _ _ _ _ (Act.put _ (some 14) _) _
      simp only [Act.put, List.setIfInBounds_toArray, List.set_cons_zero, List.set_cons_succ]
      refine wpAnyH_take (i := 5) (v := .int .i64 (L : Int)) rfl (by kernel_rfl) (by kernel_rfl) (by kernel_rfl) (fun _ _ _ h => h) (Or.inl ⟨by rfl, by intro w' _; go_simp⟩) hHeld ?_
      show wpAnyH _ _ _ _ _ _ _ (Act.put _ (some 15) _) _
      simp only [Act.put, List.setIfInBounds_toArray, List.set_cons_zero, List.set_cons_succ]
      refine wpAnyH_take (i := 6) (v := .pointer (some ⟨g, 0, none⟩)) rfl (by kernel_rfl) (by kernel_rfl) (by kernel_rfl) (fun _ _ _ h => h) (Or.inl ⟨by rfl, fun w _ => by rfl⟩) hHeld ?_
      show wpAnyH _ _ _ _ _ _ _ (Act.put _ (some 16) _) _
      simp only [Act.put, List.setIfInBounds_toArray, List.set_cons_zero, List.set_cons_succ]
      refine wpAnyH_take (i := 7) (v := .pointer (some ⟨g, 0, none⟩)) rfl (by kernel_rfl) (by kernel_rfl) (by kernel_rfl) (fun _ _ _ h => h) (Or.inl ⟨by rfl, by intro w' _; go_simp⟩) hHeld ?_
      show wpAnyH _ _ _ _ _ _ _ (Act.put _ (some 17) _) _
      simp only [Act.put, List.setIfInBounds_toArray, List.set_cons_zero, List.set_cons_succ]
      refine wpAnyH_take (i := 8) (v := .pointer (some ⟨g, 1, none⟩)) rfl (by kernel_rfl) (by kernel_rfl) (by kernel_rfl) (fun _ _ _ h => h) (Or.inl ⟨by rfl, by intro w' _; go_simp⟩) hHeld ?_
      show wpAnyH _ _ _ _ _ _ _ (Act.put _ (some 18) _) _
      simp only [Act.put, List.setIfInBounds_toArray, List.set_cons_zero, List.set_cons_succ]
      refine wpAnyH_take (i := 9) (v := .int .i64 (at_ : Int)) rfl (by kernel_rfl) (by kernel_rfl) (by kernel_rfl) (fun _ _ _ h => h) (Or.inl ⟨by rfl, by intro w' h; have hc := Blk.cell h 1; go_simp⟩) hHeld ?_
      show wpAnyH _ _ _ _ _ _ _ (Act.put _ (some 19) _) _
      simp only [Act.put, List.setIfInBounds_toArray, List.set_cons_zero, List.set_cons_succ]
      refine wpAnyH_take (i := 10) (v := .int .i64 ((L : Int) - (at_ : Int))) rfl (by kernel_rfl) (by kernel_rfl) (by kernel_rfl) (fun _ _ _ h => h) (Or.inl ⟨by rfl, by intro w' _; go_simp⟩) hHeld ?_
      show wpAnyH _ _ _ _ _ _ _ (Act.put _ (some 20) _) _
      simp only [Act.put, List.setIfInBounds_toArray, List.set_cons_zero, List.set_cons_succ]
      refine wpAnyH_take (i := 11) (v := .bool true) rfl (by kernel_rfl) (by kernel_rfl) (by kernel_rfl) (fun _ _ _ h => h) (Or.inl ⟨by rfl, by intro w' _; go_simp⟩) hHeld ?_
      show wpAnyH _ _ _ _ _ _ _ (Act.put _ (some 21) _) _
      simp only [Act.put, List.setIfInBounds_toArray, List.set_cons_zero, List.set_cons_succ]
      refine wpAnyH_done (by kernel_rfl) ?_ _
      clear hHeld
      have c2b := HMX0.out.cell 2
      have f2b := HMX0.out.frozen 2
      have HE := Lib.hid (HMX0.out.set_ 2 (.int .i64 9))
      have HG : Hid (w.grownBy (X0.setCell ⟨g, 2, none⟩ (.int .i64 9)) (some g)) := Lib.hid (only_setCell (Oct.only_below (only_refl w (some g)) HWX0.out) (.inl rfl) _)
      have HSX := Lib.hid (HR.out.src.grown HG.out)
      go_wp2
      go_ret
      have HS3 : Hid (¬ at_ + n ≤ l.length) := Lib.hid (by rw [HLL.out]; omega)
      have HS2 : Hid (¬ ((0 : Nat) = 0 ∧ at_ + n ≤ l.length)) := Lib.hid (fun h => HS3.out h.2)
      exact ⟨⟨none, 0, by rw [if_neg HS2.out] <;> rfl, fun h => absurd h HS2.out⟩, by rw [if_neg HS2.out, if_neg (fun h => h rfl), if_neg HS3.out]; exact ⟨by rw [HLL.out]; exact HE.out, HSX.out, HR.out.cap, HR.out.old, HR.out.ple⟩, HG.out⟩
  · have HM := Lib.hid hb
    have c2 := hb.cell 2
    have he2 : ¬ ((e0 : Int) = 0) := by omega
    clear hb
    go_enter Tryd.func98, Tryd.ntmps98
    go_wp2
    go_ret
    exact ⟨⟨none, 0, by rw [if_neg (fun h => he h.1)] <;> rfl, fun h => absurd h.1 he⟩, by rw [if_neg (fun h => he h.1), if_pos he]; exact HR.out, only_refl _ _⟩
end Go.Proofs.YtkonokjhpddbfaaDoor
