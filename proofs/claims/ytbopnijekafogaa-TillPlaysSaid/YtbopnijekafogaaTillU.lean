/-
  A till's twin.
-/
import Derived.Test.YtbopnijekafogaaTillT
namespace Go.Proofs.Ytbopnijekafogaa
open Go.RowKit
set_option linter.unusedVariables false

section
variable {ops : Array Oper} {o : Oper} {a : Act} {w : World} {K : Act → World → Prop} {Q : Exit → Act → World → Prop} {E : Prop}
theorem step_make52 (hw : Region.wanted o (yielded ops a.tmps) = true) (x y : Operand) (ho : o.op = .makeSlice 52 x y) (n : Nat) (hn : n ≤ 16) (hx : a.eval x = .int .i64 n) (hy : a.eval y = .int .i64 n)
    (h : ∀ Y g, Below w.heap.size w Y → Blk Y g 56 (ac (List.replicate n (0, 0))) → w.heap.size ≤ g → K (a.put o.dst (.slice (some ⟨g, 0, none⟩) n n)) Y) :
    if Region.wanted o (yielded ops a.tmps) = true then Oper.wp Try.prog o a w K Q else E :=
  step_make hw 52 x y ho _ _ (by rw [hx, hy]; exact make52 n hn w) (h _ _ ((Below.refl _ _).alloc (Nat.le_refl _) _) (Blk.new w 56 _) (Nat.le_refl _))
theorem step_box54 (hw : Region.wanted o (yielded ops a.tmps) = true) (x : Operand) (ho : o.op = .box 54 x) (A : Option Addr) (n1 c1 : Nat) (K0 : Int) (hx : a.eval x = .agg #[.slice A n1 c1, .int .u64 K0])
    (h : ∀ Y g, Below w.heap.size w Y → Blk Y g 54 [.slice A n1 c1, .int .u64 K0] → w.heap.size ≤ g → K (a.put o.dst (.pointer (some ⟨g, 0, none⟩))) Y) :
    if Region.wanted o (yielded ops a.tmps) = true then Oper.wp Try.prog o a w K Q else E :=
  step_box hw 54 x ho _ (w.alloc (.cells #[.slice A n1 c1, .int .u64 K0] 54)) (by rw [hx]; kernel_rfl) (h _ _ ((Below.refl _ _).alloc (Nat.le_refl _) _) (Blk.new w 54 [.slice A n1 c1, .int .u64 K0]) (Nat.le_refl _))
end

theorem ac_one (l : List (Int × Int)) : ∀ u ∈ ac l, u.oneCell' = true := by
  intro u hu
  obtain ⟨f, _, hf⟩ := List.mem_flatMap.1 hu
  simp at hf
  rcases hf with rfl | rfl <;> rfl
theorem info56 : (Try.prog.info? 56).map (fun i => (i.zero, i.size, i.bytes)) = some (some (.agg #[.int .u64 0, .int .u64 0]), 2, 16) := by kernel_rfl

theorem below_row {B g : Nat} {w0 w : World} (hb : Below B w0 w) (hBg : B ≤ g) (cs : Array Value) : Below B w0 (w.setRow g cs) :=
  hb.trans ⟨rfl, rfl, rfl, by simp [World.setRow], fun k hk => setRow_other w g k cs (by omega)⟩
theorem Blk.farRow {w : World} {g g' : Nat} {t : TypeId} {cs : List Value} (h : Blk w g t cs) (hp : g ≠ g') (c : Array Value) : Blk (w.setRow g' c) g t cs := (setRow_other w g' g c hp).trans h

section
variable {ops : Array Oper} {o : Oper} {a : Act} {w : World} {K : Act → World → Prop} {Q : Exit → Act → World → Prop} {E : Prop}
theorem step_copy52 (hw : Region.wanted o (yielded ops a.tmps) = true) (d s : Operand) (ho : o.op = .call { callee := .builtin .copy, args := #[d, s], argTypes := #[52, 52] }) (n g gd : Nat) (l zs : List (Int × Int)) (hd : a.eval d = .slice (some ⟨gd, 0, none⟩) n n) (hs : a.eval s = .slice (some ⟨g, 0, none⟩) n n)
    (hl : l.length = n) (hz : zs.length = n) (hD : Blk w gd 56 (ac zs)) (hS : Blk w g 56 (ac l))
    (h : ∀ Y, w.grownBy Y (some gd) → Blk Y gd 56 (ac l) → K (a.put o.dst (goInt n)) Y) :
    if Region.wanted o (yielded ops a.tmps) = true then Oper.wp Try.prog o a w K Q else E := by
  obtain ⟨i0, hi, hz0, hz1, hz2⟩ := info_parts info56
  refine step_copy hw d s 52 52 ho _ (w.setRow gd (ac l).toArray) (fun ty => ?_) (h _ ⟨rfl, rfl, rfl, by simp, fun k hk hne => setRow_other w gd k _ (fun e => hne (by rw [e]))⟩ (hD.setRow _))
  rw [hd, hs]
  exact run_copy_all 52 52 ty 56 i0 Try.underlying52 hi gd n n n (ac zs) hD ⟨g, 0, none⟩ (ac l) (by rw [ac_length, hl, hz1]) (by rw [ac_length, ac_length, hl, hz]) (fun j u hu => by rw [Go.WideShapes.add_plain, Nat.zero_add, hS.cell]; exact hu) (ac_one l)
end

theorem AtT.grown {w w' : World} {b g i : Nat} {l : List (Int × Int)} {K : Int} (h : AtT w b g l K) (ho : w.grownBy w' (some i)) (h1 : b ≠ i) (h2 : g ≠ i) : AtT w' b g l K :=
  ⟨h.top.grown ho (by intro e; injection e with e; exact h1 e), h.row.grown ho (by intro e; injection e with e; exact h2 e), h.ok, h.kept, h.small⟩
def TwinOk (l : List (Int × Int)) (K : Int) (w : World) (e : Ending) (w' : World) : Prop :=
  ∃ b2 g2, e = .returned (.pointer (some ⟨b2, 0, none⟩)) ∧ AtT w' b2 g2 l K ∧ Below w.heap.size w w' ∧ w.heap.size ≤ b2 ∧ w.heap.size ≤ g2

set_option maxRecDepth 100000 in
set_option maxHeartbeats 1000000 in
theorem twin_any (b g : Nat) (l : List (Int × Int)) (kp : Int) (w : World) (h : AtT w b g l kp) :
    Calls Try.prog 10 #[.pointer (some ⟨b, 0, none⟩)] w (TwinOk l kp w) := by
  have A := Lib.hid h
  have W : Hid (Below w.heap.size w w) := Lib.hid (Below.refl _ _)
  have hs := h.small
  obtain ⟨m, hm⟩ : ∃ m, l.length = m := ⟨_, rfl⟩
  rw [hm] at hs
  have HL := Lib.hid hm
  clear h hm
  go_enter Try.func10, Try.ntmps10
  go_wp2_with fail
  have hBz : Below w.heap.size w w.drew := below_drewN (Below.refl _ _) 1
  have WX0 : Hid (Below w.heap.size w w.drew) := Lib.hid (W.out.trans (hBz.mono W.out.size))
  have AX0 : Hid (AtT w.drew b g l kp) := Lib.hid (A.out.keep hBz)
  clear hBz
  refine wp_region_held_drew (S := fun w' => AtT w' b g l kp) (by kernel_rfl) (AX0.out) (fun hHeld => ?_)
  generalize w.drew = X0 at hHeld WX0 AX0 ⊢
  refine wpAnyH_take (i := 0) (v := .pointer (some ⟨b, 0, none⟩)) rfl (by kernel_rfl) (by kernel_rfl) (by kernel_rfl) (fun _ _ _ h => h) (Or.inl ⟨by rfl, fun w _ => by rfl⟩) hHeld ?_
  show wpAnyH _ _ _ _ _ _ _ (Act.put _ (some 6) _) _
  simp only [Act.put, List.setIfInBounds_toArray, List.set_cons_zero, List.set_cons_succ]
  refine wpAnyH_take (i := 1) (v := .pointer (some ⟨b, 0, none⟩)) rfl (by kernel_rfl) (by kernel_rfl) (by kernel_rfl) (fun _ _ _ h => h) (Or.inl ⟨by rfl, by intro w' h; go_simp⟩) hHeld ?_
  show wpAnyH _ _ _ _ _ _ _ (Act.put _ (some 7) _) _
  simp only [Act.put, List.setIfInBounds_toArray, List.set_cons_zero, List.set_cons_succ]
  refine wpAnyH_take (i := 2) (v := .pointer (some ⟨b, 0, none⟩)) rfl (by kernel_rfl) (by kernel_rfl) (by kernel_rfl) (fun _ _ _ h => h) (Or.inl ⟨by rfl, by intro w' h; go_simp⟩) hHeld ?_
  show wpAnyH _ _ _ _ _ _ _ (Act.put _ (some 8) _) _
  simp only [Act.put, List.setIfInBounds_toArray, List.set_cons_zero, List.set_cons_succ]
  refine wpAnyH_take (i := 3) (v := .slice (some ⟨g, 0, none⟩) m m) rfl (by kernel_rfl) (by kernel_rfl) (by kernel_rfl) (fun _ _ _ h => h) (Or.inl ⟨by rfl, by intro w' h; have := AtT.sl h; rw [HL.out] at this; go_simp⟩) hHeld ?_
  show wpAnyH _ _ _ _ _ _ _ (Act.put _ (some 9) _) _
  simp only [Act.put, List.setIfInBounds_toArray, List.set_cons_zero, List.set_cons_succ]
  refine wpAnyH_take (i := 4) (v := .int .i64 (m : Int)) rfl (by kernel_rfl) (by kernel_rfl) (by kernel_rfl) (fun _ _ _ h => h) (Or.inl ⟨by rfl, by intro w' h; go_simp⟩) hHeld ?_
  show wpAnyH _ _ _ _ _ _ _ (Act.put _ (some 10) _) _
  simp only [Act.put, List.setIfInBounds_toArray, List.set_cons_zero, List.set_cons_succ]
  refine wpAnyH_take (i := 6) (v := .pointer (some ⟨b, 0, none⟩)) rfl (by kernel_rfl) (by kernel_rfl) (by kernel_rfl) (fun _ _ _ h => h) (Or.inl ⟨by rfl, fun w _ => by rfl⟩) hHeld ?_
  show wpAnyH _ _ _ _ _ _ _ (Act.put _ (some 12) _) _
  simp only [Act.put, List.setIfInBounds_toArray, List.set_cons_zero, List.set_cons_succ]
  refine wpAnyH_take (i := 7) (v := .pointer (some ⟨b, 0, none⟩)) rfl (by kernel_rfl) (by kernel_rfl) (by kernel_rfl) (fun _ _ _ h => h) (Or.inl ⟨by rfl, by intro w' h; go_simp⟩) hHeld ?_
  show wpAnyH _ _ _ _ _ _ _ (Act.put _ (some 13) _) _
  simp only [Act.put, List.setIfInBounds_toArray, List.set_cons_zero, List.set_cons_succ]
  refine wpAnyH_take (i := 8) (v := .pointer (some ⟨b, 1, none⟩)) rfl (by kernel_rfl) (by kernel_rfl) (by kernel_rfl) (fun _ _ _ h => h) (Or.inl ⟨by rfl, by intro w' h; go_simp⟩) hHeld ?_
  show wpAnyH _ _ _ _ _ _ _ (Act.put _ (some 14) _) _
  simp only [Act.put, List.setIfInBounds_toArray, List.set_cons_zero, List.set_cons_succ]
  refine wpAnyH_take (i := 9) (v := .int .u64 kp) rfl (by kernel_rfl) (by kernel_rfl) (by kernel_rfl) (fun _ _ _ h => h) (Or.inl ⟨by rfl, by intro w' h; have := AtT.kp h; go_simp⟩) hHeld ?_
  show wpAnyH _ _ _ _ _ _ _ (Act.put _ (some 15) _) _
  simp only [Act.put, List.setIfInBounds_toArray, List.set_cons_zero, List.set_cons_succ]
  refine wpAnyH_ready (rs := [5]) (by kernel_rfl) (by simp) ?_
  refine AllReadyH.cons rfl (fun K hK => ?_) AllReadyH.nil
  refine step_make52 rfl (.tmp 10) (.tmp 10) rfl m hs rfl rfl ?_
  intro X1 g2 hB hM hgX
  have hg2 : w.heap.size ≤ g2 := Nat.le_trans WX0.out.size hgX
  have hgg : g ≠ g2 := fun e => by have := AX0.out.row.lt; omega
  have WX1 : Hid (Below w.heap.size w X1) := Lib.hid (WX0.out.trans (hB.mono WX0.out.size))
  have AX1 : Hid (AtT X1 b g l kp) := Lib.hid (AX0.out.keep hB)
  have MX1 : Hid (Blk X1 g2 56 (ac (List.replicate m (0, 0)))) := Lib.hid (hM)
  clear WX0 AX0 hB hM
  refine hK.out _ _ (AX1.out) (fun hHeld => ?_)
  clear hK K
  show wpAnyH _ _ _ _ _ _ _ (Act.put _ (some 11) _) _
  simp only [Act.put, List.setIfInBounds_toArray, List.set_cons_zero, List.set_cons_succ]
  refine wpAnyH_take (i := 10) (v := .agg #[.slice (some ⟨g2, 0, none⟩) m m, .int .u64 kp]) rfl (by kernel_rfl) (by kernel_rfl) (by kernel_rfl) (fun _ _ _ h => h) (Or.inl ⟨by rfl, by intro w' h; go_simp⟩) hHeld ?_
  show wpAnyH _ _ _ _ _ _ _ (Act.put _ (some 16) _) _
  simp only [Act.put, List.setIfInBounds_toArray, List.set_cons_zero, List.set_cons_succ]
  refine wpAnyH_ready (rs := [11]) (by kernel_rfl) (by simp) ?_
  refine AllReadyH.cons rfl (fun K hK => ?_) AllReadyH.nil
  refine step_box54 rfl (.tmp 16) rfl _ _ _ kp rfl ?_
  intro X2 b2 hB hT hgX2
  have hb2 : w.heap.size ≤ b2 := Nat.le_trans WX1.out.size hgX2
  have WX2 : Hid (Below w.heap.size w X2) := Lib.hid (WX1.out.trans (hB.mono WX1.out.size))
  have AX2 : Hid (AtT X2 b g l kp) := Lib.hid (AX1.out.keep hB)
  have MX2 : Hid (Blk X2 g2 56 (ac (List.replicate m (0, 0)))) := Lib.hid (MX1.out.below hB MX1.out.lt)
  have TX2 : Hid (Blk X2 b2 54 [.slice (some ⟨g2, 0, none⟩) m m, .int .u64 kp]) := Lib.hid (hT)
  clear WX1 AX1 MX1 hB hT
  refine hK.out _ _ (AX2.out) (fun hHeld => ?_)
  clear hK K
  show wpAnyH _ _ _ _ _ _ _ (Act.put _ (some 17) _) _
  simp only [Act.put, List.setIfInBounds_toArray, List.set_cons_zero, List.set_cons_succ]
  refine wpAnyH_take (i := 12) (v := .pointer (some ⟨b2, 0, none⟩)) rfl (by kernel_rfl) (by kernel_rfl) (by kernel_rfl) (fun _ _ _ h => h) (Or.inl ⟨by rfl, fun w _ => by rfl⟩) hHeld ?_
  show wpAnyH _ _ _ _ _ _ _ (Act.put _ (some 3) _) _
  simp only [Act.put, List.setIfInBounds_toArray, List.set_cons_zero, List.set_cons_succ]
  refine wpAnyH_done (by kernel_rfl) ?_ _
  go_wp2_with fail
  clear hHeld
  have hBz : Below X2.heap.size X2 X2.drew := below_drewN (Below.refl _ _) 1
  have WZ0 : Hid (Below w.heap.size w X2.drew) := Lib.hid (WX2.out.trans (hBz.mono WX2.out.size))
  have AZ0 : Hid (AtT X2.drew b g l kp) := Lib.hid (AX2.out.keep hBz)
  have MZ0 : Hid (Blk X2.drew g2 56 (ac (List.replicate m (0, 0)))) := Lib.hid (MX2.out.below hBz MX2.out.lt)
  have TZ0 : Hid (Blk X2.drew b2 54 [.slice (some ⟨g2, 0, none⟩) m m, .int .u64 kp]) := Lib.hid (TX2.out.below hBz TX2.out.lt)
  clear hBz
  refine wp_region_held_drew (S := fun w' => AtT w' b g l kp ∧ Blk w' b2 54 [.slice (some ⟨g2, 0, none⟩) m m, .int .u64 kp]) (by kernel_rfl) (⟨AZ0.out, TZ0.out⟩) (fun hHeld => ?_)
  generalize X2.drew = Z0 at hHeld WZ0 AZ0 MZ0 TZ0 ⊢
  refine wpAnyH_take (i := 0) (v := .pointer (some ⟨b2, 0, none⟩)) rfl (by kernel_rfl) (by kernel_rfl) (by kernel_rfl) (fun _ _ _ h => h) (Or.inl ⟨by rfl, fun w _ => by rfl⟩) hHeld ?_
  show wpAnyH _ _ _ _ _ _ _ (Act.put _ (some 18) _) _
  simp only [Act.put, List.setIfInBounds_toArray, List.set_cons_zero, List.set_cons_succ]
  refine wpAnyH_take (i := 1) (v := .pointer (some ⟨b2, 0, none⟩)) rfl (by kernel_rfl) (by kernel_rfl) (by kernel_rfl) (fun _ _ _ h => h) (Or.inl ⟨by rfl, by intro w' h; go_simp⟩) hHeld ?_
  show wpAnyH _ _ _ _ _ _ _ (Act.put _ (some 19) _) _
  simp only [Act.put, List.setIfInBounds_toArray, List.set_cons_zero, List.set_cons_succ]
  refine wpAnyH_take (i := 2) (v := .pointer (some ⟨b2, 0, none⟩)) rfl (by kernel_rfl) (by kernel_rfl) (by kernel_rfl) (fun _ _ _ h => h) (Or.inl ⟨by rfl, by intro w' h; go_simp⟩) hHeld ?_
  show wpAnyH _ _ _ _ _ _ _ (Act.put _ (some 20) _) _
  simp only [Act.put, List.setIfInBounds_toArray, List.set_cons_zero, List.set_cons_succ]
  refine wpAnyH_take (i := 3) (v := .slice (some ⟨g2, 0, none⟩) m m) rfl (by kernel_rfl) (by kernel_rfl) (by kernel_rfl) (fun _ _ _ h => h) (Or.inl ⟨by rfl, by intro w' h; have := Blk.cell h.2 0; go_simp⟩) hHeld ?_
  show wpAnyH _ _ _ _ _ _ _ (Act.put _ (some 21) _) _
  simp only [Act.put, List.setIfInBounds_toArray, List.set_cons_zero, List.set_cons_succ]
  refine wpAnyH_take (i := 4) (v := .pointer (some ⟨b, 0, none⟩)) rfl (by kernel_rfl) (by kernel_rfl) (by kernel_rfl) (fun _ _ _ h => h) (Or.inl ⟨by rfl, fun w _ => by rfl⟩) hHeld ?_
  show wpAnyH _ _ _ _ _ _ _ (Act.put _ (some 22) _) _
  simp only [Act.put, List.setIfInBounds_toArray, List.set_cons_zero, List.set_cons_succ]
  refine wpAnyH_take (i := 5) (v := .pointer (some ⟨b, 0, none⟩)) rfl (by kernel_rfl) (by kernel_rfl) (by kernel_rfl) (fun _ _ _ h => h) (Or.inl ⟨by rfl, by intro w' h; go_simp⟩) hHeld ?_
  show wpAnyH _ _ _ _ _ _ _ (Act.put _ (some 23) _) _
  simp only [Act.put, List.setIfInBounds_toArray, List.set_cons_zero, List.set_cons_succ]
  refine wpAnyH_take (i := 6) (v := .pointer (some ⟨b, 0, none⟩)) rfl (by kernel_rfl) (by kernel_rfl) (by kernel_rfl) (fun _ _ _ h => h) (Or.inl ⟨by rfl, by intro w' h; go_simp⟩) hHeld ?_
  show wpAnyH _ _ _ _ _ _ _ (Act.put _ (some 24) _) _
  simp only [Act.put, List.setIfInBounds_toArray, List.set_cons_zero, List.set_cons_succ]
  refine wpAnyH_take (i := 7) (v := .slice (some ⟨g, 0, none⟩) m m) rfl (by kernel_rfl) (by kernel_rfl) (by kernel_rfl) (fun _ _ _ h => h) (Or.inl ⟨by rfl, by intro w' h; have := AtT.sl h.1; rw [HL.out] at this; go_simp⟩) hHeld ?_
  show wpAnyH _ _ _ _ _ _ _ (Act.put _ (some 25) _) _
  simp only [Act.put, List.setIfInBounds_toArray, List.set_cons_zero, List.set_cons_succ]
  refine wpAnyH_ready (rs := [8]) (by kernel_rfl) (by simp) ?_
  refine AllReadyH.cons rfl (fun K hK => ?_) AllReadyH.nil
  refine step_copy52 rfl (.tmp 21) (.tmp 25) rfl m g g2 l (List.replicate m (0, 0)) rfl rfl HL.out (by simp) MZ0.out AZ0.out.row ?_
  intro Z1 hO hN
  have hng : some b2 ≠ some g2 := fun e => TZ0.out.ne_ MZ0.out (by decide) (by injection e)
  have hbg : b ≠ g2 := AZ0.out.top.ne_ MZ0.out (by decide)
  have WZ1 : Hid (Below w.heap.size w Z1) := Lib.hid (up_grown WZ0.out hO hg2 WZ0.out.size)
  have AZ1 : Hid (AtT Z1 b g l kp) := Lib.hid (AZ0.out.grown hO hbg hgg)
  have TZ1 : Hid (Blk Z1 b2 54 [.slice (some ⟨g2, 0, none⟩) m m, .int .u64 kp]) := Lib.hid (TZ0.out.grown hO hng)
  have NZ1 : Hid (Blk Z1 g2 56 (ac l)) := Lib.hid (hN)
  clear WZ0 AZ0 TZ0 hO hN
  refine hK.out _ _ (⟨AZ1.out, TZ1.out⟩) (fun hHeld => ?_)
  clear hK K
  show wpAnyH _ _ _ _ _ _ _ (Act.put _ (some 26) _) _
  simp only [Act.put, List.setIfInBounds_toArray, List.set_cons_zero, List.set_cons_succ]
  refine wpAnyH_done (by kernel_rfl) ?_ _
  have HR : Hid (AtT Z1 b2 g2 l kp) := Lib.hid ⟨by rw [HL.out]; exact TZ1.out, NZ1.out, AZ1.out.ok, AZ1.out.kept, AZ1.out.small⟩
  go_wp2
  go_ret
  exact ⟨b2, g2, rfl, HR.out, WZ1.out, hb2, hg2⟩
end Go.Proofs.Ytbopnijekafogaa
