/-
  A trail, one step longer.
-/
import Derived.Test.YtnnimjaigciedaaPathC
namespace Go.Proofs.Ytnnimjaigciedaa
open Go.RowKit
set_option linter.unusedVariables false

theorem load122 (w : World) (g t : Nat) (a b : Option Addr) (l m c d : Nat) (h : Blk w g t [.slice a l c, .slice b m d]) : (loadVar 122 ⟨g, 0, none⟩).run Try.prog w = .ok (.agg #[.slice a l c, .slice b m d]) w := by
  have k1 := h.cell 0
  have k2 := h.cell 1
  simp only [List.getElem?_cons_zero, List.getElem?_cons_succ] at k1 k2
  go_simp
theorem result122 {fn : Func} {p : Tmp} (h : fn.results = #[.cell p 122]) (tmps : Array Value) (w : World) (g t : Nat) (a b : Option Addr) (l m c d : Nat) (hp : tmps.getD p undef = .pointer (some ⟨g, 0, none⟩)) (hP : Blk w g t [.slice a l c, .slice b m d]) :
    (results fn tmps).run Try.prog w = .ok (.agg #[.slice a l c, .slice b m d]) w := by
  have hp2 : tmps[p]?.getD undef = .pointer (some ⟨g, 0, none⟩) := by simpa using hp
  simp only [results, h]
  simp [hp2, asAddr, load122 w g t a b l m c d hP]

section
variable {ops : Array Oper} {o : Oper} {a : Act} {w : World} {K : Act → World → Prop} {Q : Exit → Act → World → Prop} {E : Prop}
theorem step_int1 (hw : Region.wanted o (yielded ops a.tmps) = true) (k : Nat) (ho : o.op = .buildSlice 58 1 #[(0, .tmp k)]) (x : Int) (hs : a.eval (.tmp k) = .int .i64 x)
    (h : ∀ Y g, Below w.heap.size w Y → Blk Y g 3 (ins [x]) → w.heap.size ≤ g → K (a.put o.dst (.slice (some ⟨g, 0, none⟩) 1 1)) Y) :
    if Region.wanted o (yielded ops a.tmps) = true then Oper.wp Try.prog o a w K Q else E :=
  step_lay hw 58 1 _ ho #[(0, .int .i64 x)] (by simp [hs]) _ (w.alloc (.cells #[.int .i64 x] 3)) (by kernel_rfl) (h _ _ ((Below.refl _ _).alloc (Nat.le_refl _) _) (Blk.new w 3 (ins [x])) (Nat.le_refl _))
set_option maxRecDepth 100000 in
theorem step_ints (hw : Region.wanted o (yielded ops a.tmps) = true) (s x : Operand) (ho : o.op = .call { callee := .builtin .append, args := #[s, x], argTypes := #[58, 58] }) (base : Nat) (v : Value) (l : List Int) (q : Int) (hs : a.eval s = v) (hown : w.ownsRow base 3 1 v l.length (ins l))
    (g : Nat) (hx : a.eval x = .slice (some ⟨g, 0, none⟩) 1 1) (hg : Blk w g 3 (ins [q])) (hl : l.length ≤ 400) (hbase : base ≤ w.heap.size)
    (h : ∀ a' c' Y, Y.ownsRow base 3 1 (.slice a' (l ++ [q]).length c') (l ++ [q]).length (ins (l ++ [q])) → w.grownBy Y v.ownBlock → K (a.put o.dst (.slice a' (l ++ [q]).length c')) Y) :
    if Region.wanted o (yielded ops a.tmps) = true then Oper.wp Try.prog o a w K Q else E := by
  obtain ⟨i0, hi, hz0, hz1, hz2⟩ := info_parts info3i
  refine step_own hw s x 58 ho base 3 i0 _ 1 8 Try.underlying58 hi hz0 hz1 hz2 rfl (by decide) v l.length (ins l) hs hown ⟨g, 0, none⟩ 1 1 (ins [q]) hx rfl (news_of hg) (ins_one [q]) (by unfold maxLen; omega) (by omega) hbase (fun v' Y h1 h2 _ _ => ?_)
  have h3 : Y.ownsRow base 3 1 v' (l ++ [q]).length (ins (l ++ [q])) := by rw [ins_append, List.length_append]; exact h1
  obtain ⟨a', c', rfl, _, _⟩ := IRow.of_own h3
  exact h a' c' Y h3 h2
theorem step_more33 (hw : Region.wanted o (yielded ops a.tmps) = true) (s x : Operand) (ho : o.op = .call { callee := .builtin .append, args := #[s, x], argTypes := #[33, 33] }) (base : Nat) (v : Value) (l : List Stp) (hs : a.eval s = v) (hown : w.ownsRow base 44 5 v l.length (sflat l))
    (g : Nat) (q : Stp) (hx : a.eval x = .slice (some ⟨g, 0, none⟩) 1 1) (hg : Blk w g 44 (scells q)) (hl : l.length ≤ 100) (hbase : base ≤ w.heap.size)
    (h : ∀ a' c' Y, Y.ownsRow base 44 5 (.slice a' (l ++ [q]).length c') (l ++ [q]).length (sflat (l ++ [q])) → w.grownBy Y v.ownBlock → K (a.put o.dst (.slice a' (l ++ [q]).length c')) Y) :
    if Region.wanted o (yielded ops a.tmps) = true then Oper.wp Try.prog o a w K Q else E :=
  step_more hw 33 44 (.inl ⟨rfl, rfl⟩) s x ho base v l hs hown g q hx hg hl hbase (fun v' Y h1 h2 => by
    obtain ⟨a', c', rfl, _, _⟩ := StpRow.of_own h1
    exact h a' c' Y h1 h2)
theorem run_store122 (w : World) (g t : Nat) (u v : Value) (a1 b1 : Option Addr) (l1 m1 c1 d1 : Nat) (h : Blk w g t [u, v]) :
    (storeVar 122 ⟨g, 0, none⟩ (.agg #[.slice a1 l1 c1, .slice b1 m1 d1])).run Try.prog w = .ok () ((w.setCell ⟨g, 0, none⟩ (.slice a1 l1 c1)).setCell ⟨g, 1, none⟩ (.slice b1 m1 d1)) := by
  have k1 := h.cell 0
  have k2 := h.cell 1
  simp only [List.getElem?_cons_zero, List.getElem?_cons_succ] at k1 k2
  have k3 := h.frozen 0
  have k4 := h.frozen 1
  go_simp
theorem step_store122 (hw : Region.wanted o (yielded ops a.tmps) = true) (d s : Operand) (ho : o.op = .store 122 d s) (g : Nat) (u v : Value) (a1 b1 : Option Addr) (l1 c1 m1 d1 : Nat) (hd : a.eval d = .pointer (some ⟨g, 0, none⟩)) (hs : a.eval s = .agg #[.slice a1 l1 c1, .slice b1 m1 d1]) (hP : Blk w g 122 [u, v])
    (h : ∀ Y, Blk Y g 122 [.slice a1 l1 c1, .slice b1 m1 d1] → w.grownBy Y (some g) → K (a.put o.dst undef) Y) :
    if Region.wanted o (yielded ops a.tmps) = true then Oper.wp Try.prog o a w K Q else E := by
  have hW : w.grownBy ((w.setCell ⟨g, 0, none⟩ (.slice a1 l1 c1)).setCell ⟨g, 1, none⟩ (.slice b1 m1 d1)) (some g) := only_setCell (p := ⟨g, 1, none⟩) (only_setCell (p := ⟨g, 0, none⟩) (only_refl w _) (.inl rfl) _) (.inl rfl) _
  have hN : Blk ((w.setCell ⟨g, 0, none⟩ (.slice a1 l1 c1)).setCell ⟨g, 1, none⟩ (.slice b1 m1 d1)) g 122 [.slice a1 l1 c1, .slice b1 m1 d1] := (hP.set_ 0 (.slice a1 l1 c1)).set_ 1 (.slice b1 m1 d1)
  have h' := h _ hN hW
  rw [if_pos hw]
  unfold Oper.wp execOp
  simp only [ho, hd, hs, Instr.storeAt, Instr.sureAddr, Sem.run_bind, Sem.run_pure, Result.andThen_ok, run_store122 w g 122 u v a1 b1 l1 m1 c1 d1 hP]
  exact h'
end
theorem own_kept {w w' : World} {base s n s' n' : Nat} {e e' : TypeId} {v v' : Value} {xs xs' : List Value} (h : w.ownsRow base e s v n xs) (h' : w.ownsRow base e' s' v' n' xs') (hne : e ≠ e') (hg : w.grownBy w' v'.ownBlock) : w'.ownsRow base e s v n xs := h.kept hg (own_apart h h' hne)

/-- A trail that was left: its nodes, its ways, both of its own. -/
def TrailPost (w : World) (l : List Int) (s : List Stp) (r : Ending) (w' : World) : Prop :=
  ∃ na nc ta tc, r = .returned (.agg #[.slice na l.length nc, .slice ta s.length tc]) ∧ w'.ownsRow w.heap.size 3 1 (.slice na l.length nc) l.length (ins l) ∧ w'.ownsRow w.heap.size 44 5 (.slice ta s.length tc) s.length (sflat s) ∧ Below w.heap.size w w'

set_option maxRecDepth 100000 in
set_option maxHeartbeats 8000000 in
theorem along_any (na : Option Addr) (n nc : Nat) (ta : Option Addr) (tl tc : Nat) (l : List Int) (s : List Stp) (e t c b r : Int) (w : World) (hN : IRow w na l) (hS : StpRow w ta s) (hn : l.length = n) (ht : s.length = tl) (hnn : na = none → l = [] ∧ nc = 0) (htn : ta = none → s = [] ∧ tc = 0) (hn2 : n ≤ 100) (ht2 : tl ≤ 100) :
    Calls Try.prog 72 #[.agg #[.slice na n nc, .slice ta tl tc], .agg #[.int .i64 e, .int .i64 t, .int .u64 c, .int .u64 b, .int .u64 r]] w (TrailPost w (l ++ [t]) (s ++ [⟨e, t, c, b, r⟩])) := by
  have HN := Lib.hid hN
  have HS := Lib.hid hS
  have HLN := Lib.hid hn
  have HLT := Lib.hid ht
  have HNN := Lib.hid hnn
  have HTN := Lib.hid htn
  clear hN hS hn ht hnn htn
  go_enter Try.func72, Try.ntmps72
  go_wp2_with fail
  have PY0 : Hid (Blk (((w.alloc (.cells #[.slice na n nc, .slice ta tl tc] 122)).alloc (.cells #[.int .i64 e, .int .i64 t, .int .u64 c, .int .u64 b, .int .u64 r] 44)).alloc (.cells #[.slice none 0 0, .slice none 0 0] 122)) w.heap.size 122 [.slice na n nc, .slice ta tl tc]) := Lib.hid (((Blk.mk_ (cs := [.slice na n nc, .slice ta tl tc]) rfl).alloc _).alloc _)
  have VY0 : Hid (Blk (((w.alloc (.cells #[.slice na n nc, .slice ta tl tc] 122)).alloc (.cells #[.int .i64 e, .int .i64 t, .int .u64 c, .int .u64 b, .int .u64 r] 44)).alloc (.cells #[.slice none 0 0, .slice none 0 0] 122)) (w.heap.size + 1) 44 (scells ⟨e, t, c, b, r⟩)) := Lib.hid ((Blk.mk_ (cs := scells ⟨e, t, c, b, r⟩) (by simp)).alloc _)
  have RY0 : Hid (Blk (((w.alloc (.cells #[.slice na n nc, .slice ta tl tc] 122)).alloc (.cells #[.int .i64 e, .int .i64 t, .int .u64 c, .int .u64 b, .int .u64 r] 44)).alloc (.cells #[.slice none 0 0, .slice none 0 0] 122)) (w.heap.size + 1 + 1) 122 [.slice none 0 0, .slice none 0 0]) := Lib.hid (Blk.mk_ (cs := [.slice none 0 0, .slice none 0 0]) (by simp))
  have BY0 : Hid (Below w.heap.size w (((w.alloc (.cells #[.slice na n nc, .slice ta tl tc] 122)).alloc (.cells #[.int .i64 e, .int .i64 t, .int .u64 c, .int .u64 b, .int .u64 r] 44)).alloc (.cells #[.slice none 0 0, .slice none 0 0] 122))) := Lib.hid ((((Below.refl _ _).alloc (Nat.le_refl _) _).alloc (by simp) _).alloc (by simp; omega) _)
  generalize (((w.alloc (.cells #[.slice na n nc, .slice ta tl tc] 122)).alloc (.cells #[.int .i64 e, .int .i64 t, .int .u64 c, .int .u64 b, .int .u64 r] 44)).alloc (.cells #[.slice none 0 0, .slice none 0 0] 122)) = Y0 at PY0 VY0 RY0 BY0 ⊢
  have hgr : w.heap.size ≤ w.heap.size + 1 + 1 := by omega
  obtain ⟨gr, hgr2⟩ : ∃ g, w.heap.size + 1 + 1 = g := ⟨_, rfl⟩
  rw [hgr2] at RY0 hgr ⊢
  obtain ⟨gv, hgv2⟩ : ∃ g, w.heap.size + 1 = g := ⟨_, rfl⟩
  rw [hgv2] at VY0 ⊢
  obtain ⟨gp, hgp2⟩ : ∃ g, Hid (w.heap.size = g) := ⟨w.heap.size, Lib.hid rfl⟩
  rw [hgp2.out] at PY0 ⊢
  have hpr : gp ≠ gr := by have := hgp2.out; omega
  clear hgv2 hgr2
  have hBz : Below Y0.heap.size Y0 Y0.drew := below_drewN (Below.refl _ _) 1
  have BX0 : Hid (Below w.heap.size w Y0.drew) := Lib.hid (BY0.out.trans (hBz.mono BY0.out.size))
  have PX0 : Hid (Blk Y0.drew gp 122 [.slice na n nc, .slice ta tl tc]) := Lib.hid (PY0.out.below hBz PY0.out.lt)
  have VX0 : Hid (Blk Y0.drew gv 44 (scells ⟨e, t, c, b, r⟩)) := Lib.hid (VY0.out.below hBz VY0.out.lt)
  have RX0 : Hid (Blk Y0.drew gr 122 [.slice none 0 0, .slice none 0 0]) := Lib.hid (RY0.out.below hBz RY0.out.lt)
  clear hBz
  refine wp_region_held_drew (S := fun w' => Blk w' gp 122 [.slice na n nc, .slice ta tl tc] ∧ Blk w' gv 44 (scells ⟨e, t, c, b, r⟩)) (by kernel_rfl) (⟨PX0.out, VX0.out⟩) (fun hHeld => ?_)
  generalize Y0.drew = X0 at hHeld BX0 PX0 VX0 RX0 ⊢
  refine wpAnyH_take (i := 0) (v := .pointer (some ⟨gp, 0, none⟩)) rfl (by kernel_rfl) (by kernel_rfl) (by kernel_rfl) (fun _ _ _ h => h) (Or.inl ⟨by rfl, by intro w' h; go_simp⟩) hHeld ?_
  show wpAnyH _ _ _ _ _ _ _ (Act.put _ (some 5) _) _
  simp only [Act.put, List.setIfInBounds_toArray, List.set_cons_zero, List.set_cons_succ]
  refine wpAnyH_take (i := 1) (v := .slice na n nc) rfl (by kernel_rfl) (by kernel_rfl) (by kernel_rfl) (fun _ _ _ h => h) (Or.inl ⟨by rfl, by intro w' h; have k0 := Blk.cell h.1 0; simp only [List.getElem?_cons_zero] at k0; go_simp⟩) hHeld ?_
  show wpAnyH _ _ _ _ _ _ _ (Act.put _ (some 6) _) _
  simp only [Act.put, List.setIfInBounds_toArray, List.set_cons_zero, List.set_cons_succ]
  refine wpAnyH_take (i := 3) (v := .pointer (some ⟨gv, 1, none⟩)) rfl (by kernel_rfl) (by kernel_rfl) (by kernel_rfl) (fun _ _ _ h => h) (Or.inl ⟨by rfl, by intro w' h; go_simp⟩) hHeld ?_
  show wpAnyH _ _ _ _ _ _ _ (Act.put _ (some 8) _) _
  simp only [Act.put, List.setIfInBounds_toArray, List.set_cons_zero, List.set_cons_succ]
  refine wpAnyH_take (i := 4) (v := .int .i64 t) rfl (by kernel_rfl) (by kernel_rfl) (by kernel_rfl) (fun _ _ _ h => h) (Or.inl ⟨by rfl, by intro w' h; have k1 : w'.cell? ⟨gv, 1, none⟩ = some (.int .i64 t) := Blk.cell h.2 1; go_simp⟩) hHeld ?_
  show wpAnyH _ _ _ _ _ _ _ (Act.put _ (some 9) _) _
  simp only [Act.put, List.setIfInBounds_toArray, List.set_cons_zero, List.set_cons_succ]
  refine wpAnyH_take (i := 7) (v := .pointer (some ⟨gp, 1, none⟩)) rfl (by kernel_rfl) (by kernel_rfl) (by kernel_rfl) (fun _ _ _ h => h) (Or.inl ⟨by rfl, by intro w' h; go_simp⟩) hHeld ?_
  show wpAnyH _ _ _ _ _ _ _ (Act.put _ (some 12) _) _
  simp only [Act.put, List.setIfInBounds_toArray, List.set_cons_zero, List.set_cons_succ]
  refine wpAnyH_take (i := 8) (v := .slice ta tl tc) rfl (by kernel_rfl) (by kernel_rfl) (by kernel_rfl) (fun _ _ _ h => h) (Or.inl ⟨by rfl, by intro w' h; have k1 := Blk.cell h.1 1; simp only [List.getElem?_cons_zero, List.getElem?_cons_succ] at k1; go_simp⟩) hHeld ?_
  show wpAnyH _ _ _ _ _ _ _ (Act.put _ (some 13) _) _
  simp only [Act.put, List.setIfInBounds_toArray, List.set_cons_zero, List.set_cons_succ]
  refine wpAnyH_take (i := 10) (v := .agg #[.int .i64 e, .int .i64 t, .int .u64 c, .int .u64 b, .int .u64 r]) rfl (by kernel_rfl) (by kernel_rfl) (by kernel_rfl) (fun _ _ _ h => h) (Or.inl ⟨by rfl, by intro w' h; have k0 : w'.cell? ⟨gv, 0, none⟩ = some (.int .i64 e) := Blk.cell h.2 0; have k1 : w'.cell? ⟨gv, 1, none⟩ = some (.int .i64 t) := Blk.cell h.2 1; have k2 : w'.cell? ⟨gv, 2, none⟩ = some (.int .u64 c) := Blk.cell h.2 2; have k3 : w'.cell? ⟨gv, 3, none⟩ = some (.int .u64 b) := Blk.cell h.2 3; have k4 : w'.cell? ⟨gv, 4, none⟩ = some (.int .u64 r) := Blk.cell h.2 4; go_simp⟩) hHeld ?_
  show wpAnyH _ _ _ _ _ _ _ (Act.put _ (some 15) _) _
  simp only [Act.put, List.setIfInBounds_toArray, List.set_cons_zero, List.set_cons_succ]
  refine wpAnyH_ready (rs := [2, 5, 11]) (by kernel_rfl) (by simp) ?_
  refine AllReadyH.cons rfl (fun K hK => ?_) (AllReadyH.cons rfl (fun K hK => ?_) (AllReadyH.cons rfl (fun K hK => ?_) AllReadyH.nil))
  · refine step_call rfl 85 #[.tmp 6] #[58] rfl #[.slice na n nc] (by simp [Act.eval]) (by go_simp) (clone58_any na nc n l X0 (HN.out.below BX0.out) HNN.out HLN.out (by omega)) ?_
    rintro e X1 ⟨v1, rfl, hO1, hB⟩
    have BX1 : Hid (Below w.heap.size w X1) := Lib.hid (BX0.out.trans (hB.mono BX0.out.size))
    have PX1 : Hid (Blk X1 gp 122 [.slice na n nc, .slice ta tl tc]) := Lib.hid (PX0.out.below hB PX0.out.lt)
    have VX1 : Hid (Blk X1 gv 44 (scells ⟨e, t, c, b, r⟩)) := Lib.hid (VX0.out.below hB VX0.out.lt)
    have RX1 : Hid (Blk X1 gr 122 [.slice none 0 0, .slice none 0 0]) := Lib.hid (RX0.out.below hB RX0.out.lt)
    have O1X1 : Hid (World.ownsRow X1 w.heap.size 3 1 v1 l.length (ins l)) := Lib.hid (own_lower hO1 BX0.out.size)
    clear BX0 PX0 VX0 RX0 hB hO1
    refine ⟨_, rfl, hK.out _ _ (⟨PX1.out, VX1.out⟩) (fun hHeld => ?_)⟩
    clear hK K
    show wpAnyH _ _ _ _ _ _ _ (Act.put _ (some 7) _) _
    simp only [Act.put, List.setIfInBounds_toArray, List.set_cons_zero, List.set_cons_succ]
    refine wpAnyH_ready (rs := [5, 11]) (by kernel_rfl) (by simp) ?_
    refine AllReadyH.cons rfl (fun K hK => ?_) (AllReadyH.cons rfl (fun K hK => ?_) AllReadyH.nil)
    · refine step_int1 rfl 9 rfl t rfl ?_
      intro X2 gn hB hN hg
      have BX2 : Hid (Below w.heap.size w X2) := Lib.hid (BX1.out.trans (hB.mono BX1.out.size))
      have PX2 : Hid (Blk X2 gp 122 [.slice na n nc, .slice ta tl tc]) := Lib.hid (PX1.out.below hB PX1.out.lt)
      have VX2 : Hid (Blk X2 gv 44 (scells ⟨e, t, c, b, r⟩)) := Lib.hid (VX1.out.below hB VX1.out.lt)
      have RX2 : Hid (Blk X2 gr 122 [.slice none 0 0, .slice none 0 0]) := Lib.hid (RX1.out.below hB RX1.out.lt)
      have O1X2 : Hid (World.ownsRow X2 w.heap.size 3 1 v1 l.length (ins l)) := Lib.hid (ownsRow_keep O1X1.out hB)
      have N1X2 : Hid (Blk X2 gn 3 (ins [t])) := Lib.hid (hN)
      clear BX1 PX1 VX1 RX1 O1X1 hB hN hg
      refine hK.out _ _ (⟨PX2.out, VX2.out⟩) (fun hHeld => ?_)
      clear hK K
      show wpAnyH _ _ _ _ _ _ _ (Act.put _ (some 10) _) _
      simp only [Act.put, List.setIfInBounds_toArray, List.set_cons_zero, List.set_cons_succ]
      refine wpAnyH_ready (rs := [6, 11]) (by kernel_rfl) (by simp) ?_
      refine AllReadyH.cons rfl (fun K hK => ?_) (AllReadyH.cons rfl (fun K hK => ?_) AllReadyH.nil)
      · refine step_ints rfl (.tmp 7) (.tmp 10) rfl w.heap.size v1 l t rfl O1X2.out gn rfl N1X2.out (by rw [HLN.out]; omega) BX2.out.size ?_
        intro a1 c1 X3 hA hO
        have hOwn := O1X2.out
        have hPO := own_ne PX2.out hOwn (by decide)
        have hVO := own_ne VX2.out hOwn (by decide)
        have hRO := own_ne RX2.out hOwn (by decide)
        have BX3 : Hid (Below w.heap.size w X3) := Lib.hid (below_own BX2.out hO hOwn (Nat.le_refl _) BX2.out.size)
        have PX3 : Hid (Blk X3 gp 122 [.slice na n nc, .slice ta tl tc]) := Lib.hid (PX2.out.grown hO hPO)
        have VX3 : Hid (Blk X3 gv 44 (scells ⟨e, t, c, b, r⟩)) := Lib.hid (VX2.out.grown hO hVO)
        have RX3 : Hid (Blk X3 gr 122 [.slice none 0 0, .slice none 0 0]) := Lib.hid (RX2.out.grown hO hRO)
        have A1X3 : Hid (World.ownsRow X3 w.heap.size 3 1 (.slice a1 (l ++ [t]).length c1) (l ++ [t]).length (ins (l ++ [t]))) := Lib.hid (hA)
        clear BX2 PX2 VX2 RX2 hA hO hOwn
        refine hK.out _ _ (⟨PX3.out, VX3.out⟩) (fun hHeld => ?_)
        clear hK K
        show wpAnyH _ _ _ _ _ _ _ (Act.put _ (some 11) _) _
        simp only [Act.put, List.setIfInBounds_toArray, List.set_cons_zero, List.set_cons_succ]
        refine wpAnyH_ready (rs := [9, 11]) (by kernel_rfl) (by simp) ?_
        refine AllReadyH.cons rfl (fun K hK => ?_) (AllReadyH.cons rfl (fun K hK => ?_) AllReadyH.nil)
        · refine step_call rfl 86 #[.tmp 13] #[33] rfl #[.slice ta tl tc] (by simp [Act.eval]) (by go_simp) (clone33_any ta tc tl s X3 (HS.out.below BX3.out) HTN.out HLT.out (by omega)) ?_
          rintro e X4 ⟨v2, rfl, hO2, hB⟩
          have BX4 : Hid (Below w.heap.size w X4) := Lib.hid (BX3.out.trans (hB.mono BX3.out.size))
          have PX4 : Hid (Blk X4 gp 122 [.slice na n nc, .slice ta tl tc]) := Lib.hid (PX3.out.below hB PX3.out.lt)
          have VX4 : Hid (Blk X4 gv 44 (scells ⟨e, t, c, b, r⟩)) := Lib.hid (VX3.out.below hB VX3.out.lt)
          have RX4 : Hid (Blk X4 gr 122 [.slice none 0 0, .slice none 0 0]) := Lib.hid (RX3.out.below hB RX3.out.lt)
          have A1X4 : Hid (World.ownsRow X4 w.heap.size 3 1 (.slice a1 (l ++ [t]).length c1) (l ++ [t]).length (ins (l ++ [t]))) := Lib.hid (ownsRow_keep A1X3.out hB)
          have O2X4 : Hid (World.ownsRow X4 w.heap.size 44 5 v2 s.length (sflat s)) := Lib.hid (own_lower hO2 BX3.out.size)
          have hVO2 : some gv ≠ v2.ownBlock := fun e1 => by have h1 := (hO2.lt gv e1.symm).1; have h2 := VX3.out.lt; omega
          clear BX3 PX3 VX3 RX3 A1X3 hB hO2
          refine ⟨_, rfl, hK.out _ _ (⟨PX4.out, VX4.out⟩) (fun hHeld => ?_)⟩
          clear hK K
          show wpAnyH _ _ _ _ _ _ _ (Act.put _ (some 14) _) _
          simp only [Act.put, List.setIfInBounds_toArray, List.set_cons_zero, List.set_cons_succ]
          refine wpAnyH_ready (rs := [11]) (by kernel_rfl) (by simp) ?_
          refine AllReadyH.cons rfl (fun K hK => ?_) AllReadyH.nil
          refine step_lay33 rfl 15 rfl e t c b r rfl ?_
          intro X5 gm hB hN hg
          have BX5 : Hid (Below w.heap.size w X5) := Lib.hid (BX4.out.trans (hB.mono BX4.out.size))
          have PX5 : Hid (Blk X5 gp 122 [.slice na n nc, .slice ta tl tc]) := Lib.hid (PX4.out.below hB PX4.out.lt)
          have VX5 : Hid (Blk X5 gv 44 (scells ⟨e, t, c, b, r⟩)) := Lib.hid (VX4.out.below hB VX4.out.lt)
          have RX5 : Hid (Blk X5 gr 122 [.slice none 0 0, .slice none 0 0]) := Lib.hid (RX4.out.below hB RX4.out.lt)
          have A1X5 : Hid (World.ownsRow X5 w.heap.size 3 1 (.slice a1 (l ++ [t]).length c1) (l ++ [t]).length (ins (l ++ [t]))) := Lib.hid (ownsRow_keep A1X4.out hB)
          have O2X5 : Hid (World.ownsRow X5 w.heap.size 44 5 v2 s.length (sflat s)) := Lib.hid (ownsRow_keep O2X4.out hB)
          have N2X5 : Hid (Blk X5 gm 44 (scells ⟨e, t, c, b, r⟩)) := Lib.hid (hN)
          clear BX4 PX4 VX4 RX4 A1X4 O2X4 hB hN hg
          refine hK.out _ _ (⟨PX5.out, VX5.out⟩) (fun hHeld => ?_)
          clear hK K
          show wpAnyH _ _ _ _ _ _ _ (Act.put _ (some 16) _) _
          simp only [Act.put, List.setIfInBounds_toArray, List.set_cons_zero, List.set_cons_succ]
          refine wpAnyH_ready (rs := [12]) (by kernel_rfl) (by simp) ?_
          refine AllReadyH.cons rfl (fun K hK => ?_) AllReadyH.nil
          refine step_more33 rfl (.tmp 14) (.tmp 16) rfl w.heap.size v2 s rfl O2X5.out gm _ rfl N2X5.out (by rw [HLT.out]; omega) BX5.out.size ?_
          intro a2 c2 X6 hA hO
          have hOwn := O2X5.out
          have hPO := own_ne PX5.out hOwn (by decide)
          have hVO := hVO2
          have hRO := own_ne RX5.out hOwn (by decide)
          have BX6 : Hid (Below w.heap.size w X6) := Lib.hid (below_own BX5.out hO hOwn (Nat.le_refl _) BX5.out.size)
          have PX6 : Hid (Blk X6 gp 122 [.slice na n nc, .slice ta tl tc]) := Lib.hid (PX5.out.grown hO hPO)
          have VX6 : Hid (Blk X6 gv 44 (scells ⟨e, t, c, b, r⟩)) := Lib.hid (VX5.out.grown hO hVO)
          have RX6 : Hid (Blk X6 gr 122 [.slice none 0 0, .slice none 0 0]) := Lib.hid (RX5.out.grown hO hRO)
          have A1X6 : Hid (World.ownsRow X6 w.heap.size 3 1 (.slice a1 (l ++ [t]).length c1) (l ++ [t]).length (ins (l ++ [t]))) := Lib.hid (own_kept A1X5.out hOwn (by decide) hO)
          have A2X6 : Hid (World.ownsRow X6 w.heap.size 44 5 (.slice a2 (s ++ [Stp.mk e t c b r]).length c2) (s ++ [Stp.mk e t c b r]).length (sflat (s ++ [Stp.mk e t c b r]))) := Lib.hid (hA)
          clear BX5 PX5 VX5 RX5 A1X5 hA hO hOwn
          refine hK.out _ _ (⟨PX6.out, VX6.out⟩) (fun hHeld => ?_)
          clear hK K
          show wpAnyH _ _ _ _ _ _ _ (Act.put _ (some 17) _) _
          simp only [Act.put, List.setIfInBounds_toArray, List.set_cons_zero, List.set_cons_succ]
          refine wpAnyH_take (i := 13) (v := .agg #[.slice a1 (l ++ [t]).length c1, .slice a2 (s ++ [Stp.mk e t c b r]).length c2]) rfl (by kernel_rfl) (by kernel_rfl) (by kernel_rfl) (fun _ _ _ h => h) (Or.inl ⟨by rfl, by intro w' h; kernel_rfl⟩) hHeld ?_
          show wpAnyH _ _ _ _ _ _ _ (Act.put _ (some 18) _) _
          simp only [Act.put, List.setIfInBounds_toArray, List.set_cons_zero, List.set_cons_succ]
          refine wpAnyH_ready (rs := [14]) (by kernel_rfl) (by simp) ?_
          refine AllReadyH.cons rfl (fun K hK => ?_) AllReadyH.nil
          refine step_store122 rfl (.tmp 4) (.tmp 18) rfl gr _ _ a1 a2 (l ++ [t]).length c1 (s ++ [Stp.mk e t c b r]).length c2 rfl rfl RX6.out ?_
          intro X7 hT hO
          have hPO : some gp ≠ some gr := fun e1 => hpr (by injection e1)
          have hVO : some gv ≠ some gr := fun e1 => VX6.out.ne_ RX6.out (by decide) (by injection e1)
          have PX7 : Hid (Blk X7 gp 122 [.slice na n nc, .slice ta tl tc]) := Lib.hid (PX6.out.grown hO hPO)
          have VX7 : Hid (Blk X7 gv 44 (scells ⟨e, t, c, b, r⟩)) := Lib.hid (VX6.out.grown hO hVO)
          have RX7 : Hid (Blk X7 gr 122 [.slice a1 (l ++ [t]).length c1, .slice a2 (s ++ [Stp.mk e t c b r]).length c2]) := Lib.hid (hT)
          have A1X7 : Hid (World.ownsRow X7 w.heap.size 3 1 (.slice a1 (l ++ [t]).length c1) (l ++ [t]).length (ins (l ++ [t]))) := Lib.hid (A1X6.out.kept hO (.inr (fun e1 => own_ne RX6.out A1X6.out (by decide) e1.symm)))
          have A2X7 : Hid (World.ownsRow X7 w.heap.size 44 5 (.slice a2 (s ++ [Stp.mk e t c b r]).length c2) (s ++ [Stp.mk e t c b r]).length (sflat (s ++ [Stp.mk e t c b r]))) := Lib.hid (A2X6.out.kept hO (.inr (fun e1 => own_ne RX6.out A2X6.out (by decide) e1.symm)))
          have BX7 : Hid (Below w.heap.size w X7) := Lib.hid (BX6.out.grown hO BX6.out.size (fun k hk => by injection hk with hk; omega))
          clear PX6 VX6 hT hO
          refine hK.out _ _ (⟨PX7.out, VX7.out⟩) (fun hHeld => ?_)
          clear hK K
          show wpAnyH _ _ _ _ _ _ _ (Act.put _ none _) _
          simp only [Act.put]
          refine wpAnyH_done (by kernel_rfl) ?_ _
          clear hHeld
          go_wp2
          exact bodyPost_ret (result122 Try.results72 _ _ gr 122 a1 a2 (l ++ [t]).length (s ++ [Stp.mk e t c b r]).length c1 c2 rfl RX7.out) rfl ⟨a1, c1, a2, c2, rfl, A1X7.out, A2X7.out, BX7.out⟩
        · refine step_lay33 rfl 15 rfl e t c b r rfl ?_
          intro X4 gm hB hN hg
          have BX4 : Hid (Below w.heap.size w X4) := Lib.hid (BX3.out.trans (hB.mono BX3.out.size))
          have PX4 : Hid (Blk X4 gp 122 [.slice na n nc, .slice ta tl tc]) := Lib.hid (PX3.out.below hB PX3.out.lt)
          have VX4 : Hid (Blk X4 gv 44 (scells ⟨e, t, c, b, r⟩)) := Lib.hid (VX3.out.below hB VX3.out.lt)
          have RX4 : Hid (Blk X4 gr 122 [.slice none 0 0, .slice none 0 0]) := Lib.hid (RX3.out.below hB RX3.out.lt)
          have A1X4 : Hid (World.ownsRow X4 w.heap.size 3 1 (.slice a1 (l ++ [t]).length c1) (l ++ [t]).length (ins (l ++ [t]))) := Lib.hid (ownsRow_keep A1X3.out hB)
          have N2X4 : Hid (Blk X4 gm 44 (scells ⟨e, t, c, b, r⟩)) := Lib.hid (hN)
          clear BX3 PX3 VX3 RX3 A1X3 hB hN hg
          refine hK.out _ _ (⟨PX4.out, VX4.out⟩) (fun hHeld => ?_)
          clear hK K
          show wpAnyH _ _ _ _ _ _ _ (Act.put _ (some 16) _) _
          simp only [Act.put, List.setIfInBounds_toArray, List.set_cons_zero, List.set_cons_succ]
          refine wpAnyH_ready (rs := [9]) (by kernel_rfl) (by simp) ?_
          refine AllReadyH.cons rfl (fun K hK => ?_) AllReadyH.nil
          refine step_call rfl 86 #[.tmp 13] #[33] rfl #[.slice ta tl tc] (by simp [Act.eval]) (by go_simp) (clone33_any ta tc tl s X4 (HS.out.below BX4.out) HTN.out HLT.out (by omega)) ?_
          rintro e X5 ⟨v2, rfl, hO2, hB⟩
          have BX5 : Hid (Below w.heap.size w X5) := Lib.hid (BX4.out.trans (hB.mono BX4.out.size))
          have PX5 : Hid (Blk X5 gp 122 [.slice na n nc, .slice ta tl tc]) := Lib.hid (PX4.out.below hB PX4.out.lt)
          have VX5 : Hid (Blk X5 gv 44 (scells ⟨e, t, c, b, r⟩)) := Lib.hid (VX4.out.below hB VX4.out.lt)
          have RX5 : Hid (Blk X5 gr 122 [.slice none 0 0, .slice none 0 0]) := Lib.hid (RX4.out.below hB RX4.out.lt)
          have A1X5 : Hid (World.ownsRow X5 w.heap.size 3 1 (.slice a1 (l ++ [t]).length c1) (l ++ [t]).length (ins (l ++ [t]))) := Lib.hid (ownsRow_keep A1X4.out hB)
          have N2X5 : Hid (Blk X5 gm 44 (scells ⟨e, t, c, b, r⟩)) := Lib.hid (N2X4.out.below hB N2X4.out.lt)
          have O2X5 : Hid (World.ownsRow X5 w.heap.size 44 5 v2 s.length (sflat s)) := Lib.hid (own_lower hO2 BX4.out.size)
          have hVO2 : some gv ≠ v2.ownBlock := fun e1 => by have h1 := (hO2.lt gv e1.symm).1; have h2 := VX4.out.lt; omega
          clear BX4 PX4 VX4 RX4 A1X4 N2X4 hB hO2
          refine ⟨_, rfl, hK.out _ _ (⟨PX5.out, VX5.out⟩) (fun hHeld => ?_)⟩
          clear hK K
          show wpAnyH _ _ _ _ _ _ _ (Act.put _ (some 14) _) _
          simp only [Act.put, List.setIfInBounds_toArray, List.set_cons_zero, List.set_cons_succ]
          refine wpAnyH_ready (rs := [12]) (by kernel_rfl) (by simp) ?_
          refine AllReadyH.cons rfl (fun K hK => ?_) AllReadyH.nil
          refine step_more33 rfl (.tmp 14) (.tmp 16) rfl w.heap.size v2 s rfl O2X5.out gm _ rfl N2X5.out (by rw [HLT.out]; omega) BX5.out.size ?_
          intro a2 c2 X6 hA hO
          have hOwn := O2X5.out
          have hPO := own_ne PX5.out hOwn (by decide)
          have hVO := hVO2
          have hRO := own_ne RX5.out hOwn (by decide)
          have BX6 : Hid (Below w.heap.size w X6) := Lib.hid (below_own BX5.out hO hOwn (Nat.le_refl _) BX5.out.size)
          have PX6 : Hid (Blk X6 gp 122 [.slice na n nc, .slice ta tl tc]) := Lib.hid (PX5.out.grown hO hPO)
          have VX6 : Hid (Blk X6 gv 44 (scells ⟨e, t, c, b, r⟩)) := Lib.hid (VX5.out.grown hO hVO)
          have RX6 : Hid (Blk X6 gr 122 [.slice none 0 0, .slice none 0 0]) := Lib.hid (RX5.out.grown hO hRO)
          have A1X6 : Hid (World.ownsRow X6 w.heap.size 3 1 (.slice a1 (l ++ [t]).length c1) (l ++ [t]).length (ins (l ++ [t]))) := Lib.hid (own_kept A1X5.out hOwn (by decide) hO)
          have A2X6 : Hid (World.ownsRow X6 w.heap.size 44 5 (.slice a2 (s ++ [Stp.mk e t c b r]).length c2) (s ++ [Stp.mk e t c b r]).length (sflat (s ++ [Stp.mk e t c b r]))) := Lib.hid (hA)
          clear BX5 PX5 VX5 RX5 A1X5 hA hO hOwn
          refine hK.out _ _ (⟨PX6.out, VX6.out⟩) (fun hHeld => ?_)
          clear hK K
          show wpAnyH _ _ _ _ _ _ _ (Act.put _ (some 17) _) _
          simp only [Act.put, List.setIfInBounds_toArray, List.set_cons_zero, List.set_cons_succ]
          refine wpAnyH_take (i := 13) (v := .agg #[.slice a1 (l ++ [t]).length c1, .slice a2 (s ++ [Stp.mk e t c b r]).length c2]) rfl (by kernel_rfl) (by kernel_rfl) (by kernel_rfl) (fun _ _ _ h => h) (Or.inl ⟨by rfl, by intro w' h; kernel_rfl⟩) hHeld ?_
          show wpAnyH _ _ _ _ _ _ _ (Act.put _ (some 18) _) _
          simp only [Act.put, List.setIfInBounds_toArray, List.set_cons_zero, List.set_cons_succ]
          refine wpAnyH_ready (rs := [14]) (by kernel_rfl) (by simp) ?_
          refine AllReadyH.cons rfl (fun K hK => ?_) AllReadyH.nil
          refine step_store122 rfl (.tmp 4) (.tmp 18) rfl gr _ _ a1 a2 (l ++ [t]).length c1 (s ++ [Stp.mk e t c b r]).length c2 rfl rfl RX6.out ?_
          intro X7 hT hO
          have hPO : some gp ≠ some gr := fun e1 => hpr (by injection e1)
          have hVO : some gv ≠ some gr := fun e1 => VX6.out.ne_ RX6.out (by decide) (by injection e1)
          have PX7 : Hid (Blk X7 gp 122 [.slice na n nc, .slice ta tl tc]) := Lib.hid (PX6.out.grown hO hPO)
          have VX7 : Hid (Blk X7 gv 44 (scells ⟨e, t, c, b, r⟩)) := Lib.hid (VX6.out.grown hO hVO)
          have RX7 : Hid (Blk X7 gr 122 [.slice a1 (l ++ [t]).length c1, .slice a2 (s ++ [Stp.mk e t c b r]).length c2]) := Lib.hid (hT)
          have A1X7 : Hid (World.ownsRow X7 w.heap.size 3 1 (.slice a1 (l ++ [t]).length c1) (l ++ [t]).length (ins (l ++ [t]))) := Lib.hid (A1X6.out.kept hO (.inr (fun e1 => own_ne RX6.out A1X6.out (by decide) e1.symm)))
          have A2X7 : Hid (World.ownsRow X7 w.heap.size 44 5 (.slice a2 (s ++ [Stp.mk e t c b r]).length c2) (s ++ [Stp.mk e t c b r]).length (sflat (s ++ [Stp.mk e t c b r]))) := Lib.hid (A2X6.out.kept hO (.inr (fun e1 => own_ne RX6.out A2X6.out (by decide) e1.symm)))
          have BX7 : Hid (Below w.heap.size w X7) := Lib.hid (BX6.out.grown hO BX6.out.size (fun k hk => by injection hk with hk; omega))
          clear PX6 VX6 hT hO
          refine hK.out _ _ (⟨PX7.out, VX7.out⟩) (fun hHeld => ?_)
          clear hK K
          show wpAnyH _ _ _ _ _ _ _ (Act.put _ none _) _
          simp only [Act.put]
          refine wpAnyH_done (by kernel_rfl) ?_ _
          clear hHeld
          go_wp2
          exact bodyPost_ret (result122 Try.results72 _ _ gr 122 a1 a2 (l ++ [t]).length (s ++ [Stp.mk e t c b r]).length c1 c2 rfl RX7.out) rfl ⟨a1, c1, a2, c2, rfl, A1X7.out, A2X7.out, BX7.out⟩
      · refine step_lay33 rfl 15 rfl e t c b r rfl ?_
        intro X3 gm hB hN hg
        have BX3 : Hid (Below w.heap.size w X3) := Lib.hid (BX2.out.trans (hB.mono BX2.out.size))
        have PX3 : Hid (Blk X3 gp 122 [.slice na n nc, .slice ta tl tc]) := Lib.hid (PX2.out.below hB PX2.out.lt)
        have VX3 : Hid (Blk X3 gv 44 (scells ⟨e, t, c, b, r⟩)) := Lib.hid (VX2.out.below hB VX2.out.lt)
        have RX3 : Hid (Blk X3 gr 122 [.slice none 0 0, .slice none 0 0]) := Lib.hid (RX2.out.below hB RX2.out.lt)
        have O1X3 : Hid (World.ownsRow X3 w.heap.size 3 1 v1 l.length (ins l)) := Lib.hid (ownsRow_keep O1X2.out hB)
        have N1X3 : Hid (Blk X3 gn 3 (ins [t])) := Lib.hid (N1X2.out.below hB N1X2.out.lt)
        have N2X3 : Hid (Blk X3 gm 44 (scells ⟨e, t, c, b, r⟩)) := Lib.hid (hN)
        clear BX2 PX2 VX2 RX2 O1X2 N1X2 hB hN hg
        refine hK.out _ _ (⟨PX3.out, VX3.out⟩) (fun hHeld => ?_)
        clear hK K
        show wpAnyH _ _ _ _ _ _ _ (Act.put _ (some 16) _) _
        simp only [Act.put, List.setIfInBounds_toArray, List.set_cons_zero, List.set_cons_succ]
        refine wpAnyH_ready (rs := [6]) (by kernel_rfl) (by simp) ?_
        refine AllReadyH.cons rfl (fun K hK => ?_) AllReadyH.nil
        refine step_ints rfl (.tmp 7) (.tmp 10) rfl w.heap.size v1 l t rfl O1X3.out gn rfl N1X3.out (by rw [HLN.out]; omega) BX3.out.size ?_
        intro a1 c1 X4 hA hO
        have hOwn := O1X3.out
        have hPO := own_ne PX3.out hOwn (by decide)
        have hVO := own_ne VX3.out hOwn (by decide)
        have hRO := own_ne RX3.out hOwn (by decide)
        have hNO := own_ne N2X3.out hOwn (by decide)
        have BX4 : Hid (Below w.heap.size w X4) := Lib.hid (below_own BX3.out hO hOwn (Nat.le_refl _) BX3.out.size)
        have PX4 : Hid (Blk X4 gp 122 [.slice na n nc, .slice ta tl tc]) := Lib.hid (PX3.out.grown hO hPO)
        have VX4 : Hid (Blk X4 gv 44 (scells ⟨e, t, c, b, r⟩)) := Lib.hid (VX3.out.grown hO hVO)
        have RX4 : Hid (Blk X4 gr 122 [.slice none 0 0, .slice none 0 0]) := Lib.hid (RX3.out.grown hO hRO)
        have N2X4 : Hid (Blk X4 gm 44 (scells ⟨e, t, c, b, r⟩)) := Lib.hid (N2X3.out.grown hO hNO)
        have A1X4 : Hid (World.ownsRow X4 w.heap.size 3 1 (.slice a1 (l ++ [t]).length c1) (l ++ [t]).length (ins (l ++ [t]))) := Lib.hid (hA)
        clear BX3 PX3 VX3 RX3 N2X3 hA hO hOwn
        refine hK.out _ _ (⟨PX4.out, VX4.out⟩) (fun hHeld => ?_)
        clear hK K
        show wpAnyH _ _ _ _ _ _ _ (Act.put _ (some 11) _) _
        simp only [Act.put, List.setIfInBounds_toArray, List.set_cons_zero, List.set_cons_succ]
        refine wpAnyH_ready (rs := [9]) (by kernel_rfl) (by simp) ?_
        refine AllReadyH.cons rfl (fun K hK => ?_) AllReadyH.nil
        refine step_call rfl 86 #[.tmp 13] #[33] rfl #[.slice ta tl tc] (by simp [Act.eval]) (by go_simp) (clone33_any ta tc tl s X4 (HS.out.below BX4.out) HTN.out HLT.out (by omega)) ?_
        rintro e X5 ⟨v2, rfl, hO2, hB⟩
        have BX5 : Hid (Below w.heap.size w X5) := Lib.hid (BX4.out.trans (hB.mono BX4.out.size))
        have PX5 : Hid (Blk X5 gp 122 [.slice na n nc, .slice ta tl tc]) := Lib.hid (PX4.out.below hB PX4.out.lt)
        have VX5 : Hid (Blk X5 gv 44 (scells ⟨e, t, c, b, r⟩)) := Lib.hid (VX4.out.below hB VX4.out.lt)
        have RX5 : Hid (Blk X5 gr 122 [.slice none 0 0, .slice none 0 0]) := Lib.hid (RX4.out.below hB RX4.out.lt)
        have N2X5 : Hid (Blk X5 gm 44 (scells ⟨e, t, c, b, r⟩)) := Lib.hid (N2X4.out.below hB N2X4.out.lt)
        have A1X5 : Hid (World.ownsRow X5 w.heap.size 3 1 (.slice a1 (l ++ [t]).length c1) (l ++ [t]).length (ins (l ++ [t]))) := Lib.hid (ownsRow_keep A1X4.out hB)
        have O2X5 : Hid (World.ownsRow X5 w.heap.size 44 5 v2 s.length (sflat s)) := Lib.hid (own_lower hO2 BX4.out.size)
        have hVO2 : some gv ≠ v2.ownBlock := fun e1 => by have h1 := (hO2.lt gv e1.symm).1; have h2 := VX4.out.lt; omega
        clear BX4 PX4 VX4 RX4 N2X4 A1X4 hB hO2
        refine ⟨_, rfl, hK.out _ _ (⟨PX5.out, VX5.out⟩) (fun hHeld => ?_)⟩
        clear hK K
        show wpAnyH _ _ _ _ _ _ _ (Act.put _ (some 14) _) _
        simp only [Act.put, List.setIfInBounds_toArray, List.set_cons_zero, List.set_cons_succ]
        refine wpAnyH_ready (rs := [12]) (by kernel_rfl) (by simp) ?_
        refine AllReadyH.cons rfl (fun K hK => ?_) AllReadyH.nil
        refine step_more33 rfl (.tmp 14) (.tmp 16) rfl w.heap.size v2 s rfl O2X5.out gm _ rfl N2X5.out (by rw [HLT.out]; omega) BX5.out.size ?_
        intro a2 c2 X6 hA hO
        have hOwn := O2X5.out
        have hPO := own_ne PX5.out hOwn (by decide)
        have hVO := hVO2
        have hRO := own_ne RX5.out hOwn (by decide)
        have BX6 : Hid (Below w.heap.size w X6) := Lib.hid (below_own BX5.out hO hOwn (Nat.le_refl _) BX5.out.size)
        have PX6 : Hid (Blk X6 gp 122 [.slice na n nc, .slice ta tl tc]) := Lib.hid (PX5.out.grown hO hPO)
        have VX6 : Hid (Blk X6 gv 44 (scells ⟨e, t, c, b, r⟩)) := Lib.hid (VX5.out.grown hO hVO)
        have RX6 : Hid (Blk X6 gr 122 [.slice none 0 0, .slice none 0 0]) := Lib.hid (RX5.out.grown hO hRO)
        have A1X6 : Hid (World.ownsRow X6 w.heap.size 3 1 (.slice a1 (l ++ [t]).length c1) (l ++ [t]).length (ins (l ++ [t]))) := Lib.hid (own_kept A1X5.out hOwn (by decide) hO)
        have A2X6 : Hid (World.ownsRow X6 w.heap.size 44 5 (.slice a2 (s ++ [Stp.mk e t c b r]).length c2) (s ++ [Stp.mk e t c b r]).length (sflat (s ++ [Stp.mk e t c b r]))) := Lib.hid (hA)
        clear BX5 PX5 VX5 RX5 A1X5 hA hO hOwn
        refine hK.out _ _ (⟨PX6.out, VX6.out⟩) (fun hHeld => ?_)
        clear hK K
        show wpAnyH _ _ _ _ _ _ _ (Act.put _ (some 17) _) _
        simp only [Act.put, List.setIfInBounds_toArray, List.set_cons_zero, List.set_cons_succ]
        refine wpAnyH_take (i := 13) (v := .agg #[.slice a1 (l ++ [t]).length c1, .slice a2 (s ++ [Stp.mk e t c b r]).length c2]) rfl (by kernel_rfl) (by kernel_rfl) (by kernel_rfl) (fun _ _ _ h => h) (Or.inl ⟨by rfl, by intro w' h; kernel_rfl⟩) hHeld ?_
        show wpAnyH _ _ _ _ _ _ _ (Act.put _ (some 18) _) _
        simp only [Act.put, List.setIfInBounds_toArray, List.set_cons_zero, List.set_cons_succ]
        refine wpAnyH_ready (rs := [14]) (by kernel_rfl) (by simp) ?_
        refine AllReadyH.cons rfl (fun K hK => ?_) AllReadyH.nil
        refine step_store122 rfl (.tmp 4) (.tmp 18) rfl gr _ _ a1 a2 (l ++ [t]).length c1 (s ++ [Stp.mk e t c b r]).length c2 rfl rfl RX6.out ?_
        intro X7 hT hO
        have hPO : some gp ≠ some gr := fun e1 => hpr (by injection e1)
        have hVO : some gv ≠ some gr := fun e1 => VX6.out.ne_ RX6.out (by decide) (by injection e1)
        have PX7 : Hid (Blk X7 gp 122 [.slice na n nc, .slice ta tl tc]) := Lib.hid (PX6.out.grown hO hPO)
        have VX7 : Hid (Blk X7 gv 44 (scells ⟨e, t, c, b, r⟩)) := Lib.hid (VX6.out.grown hO hVO)
        have RX7 : Hid (Blk X7 gr 122 [.slice a1 (l ++ [t]).length c1, .slice a2 (s ++ [Stp.mk e t c b r]).length c2]) := Lib.hid (hT)
        have A1X7 : Hid (World.ownsRow X7 w.heap.size 3 1 (.slice a1 (l ++ [t]).length c1) (l ++ [t]).length (ins (l ++ [t]))) := Lib.hid (A1X6.out.kept hO (.inr (fun e1 => own_ne RX6.out A1X6.out (by decide) e1.symm)))
        have A2X7 : Hid (World.ownsRow X7 w.heap.size 44 5 (.slice a2 (s ++ [Stp.mk e t c b r]).length c2) (s ++ [Stp.mk e t c b r]).length (sflat (s ++ [Stp.mk e t c b r]))) := Lib.hid (A2X6.out.kept hO (.inr (fun e1 => own_ne RX6.out A2X6.out (by decide) e1.symm)))
        have BX7 : Hid (Below w.heap.size w X7) := Lib.hid (BX6.out.grown hO BX6.out.size (fun k hk => by injection hk with hk; omega))
        clear PX6 VX6 hT hO
        refine hK.out _ _ (⟨PX7.out, VX7.out⟩) (fun hHeld => ?_)
        clear hK K
        show wpAnyH _ _ _ _ _ _ _ (Act.put _ none _) _
        simp only [Act.put]
        refine wpAnyH_done (by kernel_rfl) ?_ _
        clear hHeld
        go_wp2
        exact bodyPost_ret (result122 Try.results72 _ _ gr 122 a1 a2 (l ++ [t]).length (s ++ [Stp.mk e t c b r]).length c1 c2 rfl RX7.out) rfl ⟨a1, c1, a2, c2, rfl, A1X7.out, A2X7.out, BX7.out⟩
    · refine step_lay33 rfl 15 rfl e t c b r rfl ?_
      intro X2 gm hB hN hg
      have BX2 : Hid (Below w.heap.size w X2) := Lib.hid (BX1.out.trans (hB.mono BX1.out.size))
      have PX2 : Hid (Blk X2 gp 122 [.slice na n nc, .slice ta tl tc]) := Lib.hid (PX1.out.below hB PX1.out.lt)
      have VX2 : Hid (Blk X2 gv 44 (scells ⟨e, t, c, b, r⟩)) := Lib.hid (VX1.out.below hB VX1.out.lt)
      have RX2 : Hid (Blk X2 gr 122 [.slice none 0 0, .slice none 0 0]) := Lib.hid (RX1.out.below hB RX1.out.lt)
      have O1X2 : Hid (World.ownsRow X2 w.heap.size 3 1 v1 l.length (ins l)) := Lib.hid (ownsRow_keep O1X1.out hB)
      have N2X2 : Hid (Blk X2 gm 44 (scells ⟨e, t, c, b, r⟩)) := Lib.hid (hN)
      clear BX1 PX1 VX1 RX1 O1X1 hB hN hg
      refine hK.out _ _ (⟨PX2.out, VX2.out⟩) (fun hHeld => ?_)
      clear hK K
      show wpAnyH _ _ _ _ _ _ _ (Act.put _ (some 16) _) _
      simp only [Act.put, List.setIfInBounds_toArray, List.set_cons_zero, List.set_cons_succ]
      refine wpAnyH_ready (rs := [5]) (by kernel_rfl) (by simp) ?_
      refine AllReadyH.cons rfl (fun K hK => ?_) AllReadyH.nil
      refine step_int1 rfl 9 rfl t rfl ?_
      intro X3 gn hB hN hg
      have BX3 : Hid (Below w.heap.size w X3) := Lib.hid (BX2.out.trans (hB.mono BX2.out.size))
      have PX3 : Hid (Blk X3 gp 122 [.slice na n nc, .slice ta tl tc]) := Lib.hid (PX2.out.below hB PX2.out.lt)
      have VX3 : Hid (Blk X3 gv 44 (scells ⟨e, t, c, b, r⟩)) := Lib.hid (VX2.out.below hB VX2.out.lt)
      have RX3 : Hid (Blk X3 gr 122 [.slice none 0 0, .slice none 0 0]) := Lib.hid (RX2.out.below hB RX2.out.lt)
      have O1X3 : Hid (World.ownsRow X3 w.heap.size 3 1 v1 l.length (ins l)) := Lib.hid (ownsRow_keep O1X2.out hB)
      have N2X3 : Hid (Blk X3 gm 44 (scells ⟨e, t, c, b, r⟩)) := Lib.hid (N2X2.out.below hB N2X2.out.lt)
      have N1X3 : Hid (Blk X3 gn 3 (ins [t])) := Lib.hid (hN)
      clear BX2 PX2 VX2 RX2 O1X2 N2X2 hB hN hg
      refine hK.out _ _ (⟨PX3.out, VX3.out⟩) (fun hHeld => ?_)
      clear hK K
      show wpAnyH _ _ _ _ _ _ _ (Act.put _ (some 10) _) _
      simp only [Act.put, List.setIfInBounds_toArray, List.set_cons_zero, List.set_cons_succ]
      refine wpAnyH_ready (rs := [6]) (by kernel_rfl) (by simp) ?_
      refine AllReadyH.cons rfl (fun K hK => ?_) AllReadyH.nil
      refine step_ints rfl (.tmp 7) (.tmp 10) rfl w.heap.size v1 l t rfl O1X3.out gn rfl N1X3.out (by rw [HLN.out]; omega) BX3.out.size ?_
      intro a1 c1 X4 hA hO
      have hOwn := O1X3.out
      have hPO := own_ne PX3.out hOwn (by decide)
      have hVO := own_ne VX3.out hOwn (by decide)
      have hRO := own_ne RX3.out hOwn (by decide)
      have hNO := own_ne N2X3.out hOwn (by decide)
      have BX4 : Hid (Below w.heap.size w X4) := Lib.hid (below_own BX3.out hO hOwn (Nat.le_refl _) BX3.out.size)
      have PX4 : Hid (Blk X4 gp 122 [.slice na n nc, .slice ta tl tc]) := Lib.hid (PX3.out.grown hO hPO)
      have VX4 : Hid (Blk X4 gv 44 (scells ⟨e, t, c, b, r⟩)) := Lib.hid (VX3.out.grown hO hVO)
      have RX4 : Hid (Blk X4 gr 122 [.slice none 0 0, .slice none 0 0]) := Lib.hid (RX3.out.grown hO hRO)
      have N2X4 : Hid (Blk X4 gm 44 (scells ⟨e, t, c, b, r⟩)) := Lib.hid (N2X3.out.grown hO hNO)
      have A1X4 : Hid (World.ownsRow X4 w.heap.size 3 1 (.slice a1 (l ++ [t]).length c1) (l ++ [t]).length (ins (l ++ [t]))) := Lib.hid (hA)
      clear BX3 PX3 VX3 RX3 N2X3 hA hO hOwn
      refine hK.out _ _ (⟨PX4.out, VX4.out⟩) (fun hHeld => ?_)
      clear hK K
      show wpAnyH _ _ _ _ _ _ _ (Act.put _ (some 11) _) _
      simp only [Act.put, List.setIfInBounds_toArray, List.set_cons_zero, List.set_cons_succ]
      refine wpAnyH_ready (rs := [9]) (by kernel_rfl) (by simp) ?_
      refine AllReadyH.cons rfl (fun K hK => ?_) AllReadyH.nil
      refine step_call rfl 86 #[.tmp 13] #[33] rfl #[.slice ta tl tc] (by simp [Act.eval]) (by go_simp) (clone33_any ta tc tl s X4 (HS.out.below BX4.out) HTN.out HLT.out (by omega)) ?_
      rintro e X5 ⟨v2, rfl, hO2, hB⟩
      have BX5 : Hid (Below w.heap.size w X5) := Lib.hid (BX4.out.trans (hB.mono BX4.out.size))
      have PX5 : Hid (Blk X5 gp 122 [.slice na n nc, .slice ta tl tc]) := Lib.hid (PX4.out.below hB PX4.out.lt)
      have VX5 : Hid (Blk X5 gv 44 (scells ⟨e, t, c, b, r⟩)) := Lib.hid (VX4.out.below hB VX4.out.lt)
      have RX5 : Hid (Blk X5 gr 122 [.slice none 0 0, .slice none 0 0]) := Lib.hid (RX4.out.below hB RX4.out.lt)
      have N2X5 : Hid (Blk X5 gm 44 (scells ⟨e, t, c, b, r⟩)) := Lib.hid (N2X4.out.below hB N2X4.out.lt)
      have A1X5 : Hid (World.ownsRow X5 w.heap.size 3 1 (.slice a1 (l ++ [t]).length c1) (l ++ [t]).length (ins (l ++ [t]))) := Lib.hid (ownsRow_keep A1X4.out hB)
      have O2X5 : Hid (World.ownsRow X5 w.heap.size 44 5 v2 s.length (sflat s)) := Lib.hid (own_lower hO2 BX4.out.size)
      have hVO2 : some gv ≠ v2.ownBlock := fun e1 => by have h1 := (hO2.lt gv e1.symm).1; have h2 := VX4.out.lt; omega
      clear BX4 PX4 VX4 RX4 N2X4 A1X4 hB hO2
      refine ⟨_, rfl, hK.out _ _ (⟨PX5.out, VX5.out⟩) (fun hHeld => ?_)⟩
      clear hK K
      show wpAnyH _ _ _ _ _ _ _ (Act.put _ (some 14) _) _
      simp only [Act.put, List.setIfInBounds_toArray, List.set_cons_zero, List.set_cons_succ]
      refine wpAnyH_ready (rs := [12]) (by kernel_rfl) (by simp) ?_
      refine AllReadyH.cons rfl (fun K hK => ?_) AllReadyH.nil
      refine step_more33 rfl (.tmp 14) (.tmp 16) rfl w.heap.size v2 s rfl O2X5.out gm _ rfl N2X5.out (by rw [HLT.out]; omega) BX5.out.size ?_
      intro a2 c2 X6 hA hO
      have hOwn := O2X5.out
      have hPO := own_ne PX5.out hOwn (by decide)
      have hVO := hVO2
      have hRO := own_ne RX5.out hOwn (by decide)
      have BX6 : Hid (Below w.heap.size w X6) := Lib.hid (below_own BX5.out hO hOwn (Nat.le_refl _) BX5.out.size)
      have PX6 : Hid (Blk X6 gp 122 [.slice na n nc, .slice ta tl tc]) := Lib.hid (PX5.out.grown hO hPO)
      have VX6 : Hid (Blk X6 gv 44 (scells ⟨e, t, c, b, r⟩)) := Lib.hid (VX5.out.grown hO hVO)
      have RX6 : Hid (Blk X6 gr 122 [.slice none 0 0, .slice none 0 0]) := Lib.hid (RX5.out.grown hO hRO)
      have A1X6 : Hid (World.ownsRow X6 w.heap.size 3 1 (.slice a1 (l ++ [t]).length c1) (l ++ [t]).length (ins (l ++ [t]))) := Lib.hid (own_kept A1X5.out hOwn (by decide) hO)
      have A2X6 : Hid (World.ownsRow X6 w.heap.size 44 5 (.slice a2 (s ++ [Stp.mk e t c b r]).length c2) (s ++ [Stp.mk e t c b r]).length (sflat (s ++ [Stp.mk e t c b r]))) := Lib.hid (hA)
      clear BX5 PX5 VX5 RX5 A1X5 hA hO hOwn
      refine hK.out _ _ (⟨PX6.out, VX6.out⟩) (fun hHeld => ?_)
      clear hK K
      show wpAnyH _ _ _ _ _ _ _ (Act.put _ (some 17) _) _
      simp only [Act.put, List.setIfInBounds_toArray, List.set_cons_zero, List.set_cons_succ]
      refine wpAnyH_take (i := 13) (v := .agg #[.slice a1 (l ++ [t]).length c1, .slice a2 (s ++ [Stp.mk e t c b r]).length c2]) rfl (by kernel_rfl) (by kernel_rfl) (by kernel_rfl) (fun _ _ _ h => h) (Or.inl ⟨by rfl, by intro w' h; kernel_rfl⟩) hHeld ?_
      show wpAnyH _ _ _ _ _ _ _ (Act.put _ (some 18) _) _
      simp only [Act.put, List.setIfInBounds_toArray, List.set_cons_zero, List.set_cons_succ]
      refine wpAnyH_ready (rs := [14]) (by kernel_rfl) (by simp) ?_
      refine AllReadyH.cons rfl (fun K hK => ?_) AllReadyH.nil
      refine step_store122 rfl (.tmp 4) (.tmp 18) rfl gr _ _ a1 a2 (l ++ [t]).length c1 (s ++ [Stp.mk e t c b r]).length c2 rfl rfl RX6.out ?_
      intro X7 hT hO
      have hPO : some gp ≠ some gr := fun e1 => hpr (by injection e1)
      have hVO : some gv ≠ some gr := fun e1 => VX6.out.ne_ RX6.out (by decide) (by injection e1)
      have PX7 : Hid (Blk X7 gp 122 [.slice na n nc, .slice ta tl tc]) := Lib.hid (PX6.out.grown hO hPO)
      have VX7 : Hid (Blk X7 gv 44 (scells ⟨e, t, c, b, r⟩)) := Lib.hid (VX6.out.grown hO hVO)
      have RX7 : Hid (Blk X7 gr 122 [.slice a1 (l ++ [t]).length c1, .slice a2 (s ++ [Stp.mk e t c b r]).length c2]) := Lib.hid (hT)
      have A1X7 : Hid (World.ownsRow X7 w.heap.size 3 1 (.slice a1 (l ++ [t]).length c1) (l ++ [t]).length (ins (l ++ [t]))) := Lib.hid (A1X6.out.kept hO (.inr (fun e1 => own_ne RX6.out A1X6.out (by decide) e1.symm)))
      have A2X7 : Hid (World.ownsRow X7 w.heap.size 44 5 (.slice a2 (s ++ [Stp.mk e t c b r]).length c2) (s ++ [Stp.mk e t c b r]).length (sflat (s ++ [Stp.mk e t c b r]))) := Lib.hid (A2X6.out.kept hO (.inr (fun e1 => own_ne RX6.out A2X6.out (by decide) e1.symm)))
      have BX7 : Hid (Below w.heap.size w X7) := Lib.hid (BX6.out.grown hO BX6.out.size (fun k hk => by injection hk with hk; omega))
      clear PX6 VX6 hT hO
      refine hK.out _ _ (⟨PX7.out, VX7.out⟩) (fun hHeld => ?_)
      clear hK K
      show wpAnyH _ _ _ _ _ _ _ (Act.put _ none _) _
      simp only [Act.put]
      refine wpAnyH_done (by kernel_rfl) ?_ _
      clear hHeld
      go_wp2
      exact bodyPost_ret (result122 Try.results72 _ _ gr 122 a1 a2 (l ++ [t]).length (s ++ [Stp.mk e t c b r]).length c1 c2 rfl RX7.out) rfl ⟨a1, c1, a2, c2, rfl, A1X7.out, A2X7.out, BX7.out⟩
  · refine step_int1 rfl 9 rfl t rfl ?_
    intro X1 gn hB hN hg
    have BX1 : Hid (Below w.heap.size w X1) := Lib.hid (BX0.out.trans (hB.mono BX0.out.size))
    have PX1 : Hid (Blk X1 gp 122 [.slice na n nc, .slice ta tl tc]) := Lib.hid (PX0.out.below hB PX0.out.lt)
    have VX1 : Hid (Blk X1 gv 44 (scells ⟨e, t, c, b, r⟩)) := Lib.hid (VX0.out.below hB VX0.out.lt)
    have RX1 : Hid (Blk X1 gr 122 [.slice none 0 0, .slice none 0 0]) := Lib.hid (RX0.out.below hB RX0.out.lt)
    have N1X1 : Hid (Blk X1 gn 3 (ins [t])) := Lib.hid (hN)
    clear BX0 PX0 VX0 RX0 hB hN hg
    refine hK.out _ _ (⟨PX1.out, VX1.out⟩) (fun hHeld => ?_)
    clear hK K
    show wpAnyH _ _ _ _ _ _ _ (Act.put _ (some 10) _) _
    simp only [Act.put, List.setIfInBounds_toArray, List.set_cons_zero, List.set_cons_succ]
    refine wpAnyH_ready (rs := [2, 11]) (by kernel_rfl) (by simp) ?_
    refine AllReadyH.cons rfl (fun K hK => ?_) (AllReadyH.cons rfl (fun K hK => ?_) AllReadyH.nil)
    · refine step_call rfl 85 #[.tmp 6] #[58] rfl #[.slice na n nc] (by simp [Act.eval]) (by go_simp) (clone58_any na nc n l X1 (HN.out.below BX1.out) HNN.out HLN.out (by omega)) ?_
      rintro e X2 ⟨v1, rfl, hO1, hB⟩
      have BX2 : Hid (Below w.heap.size w X2) := Lib.hid (BX1.out.trans (hB.mono BX1.out.size))
      have PX2 : Hid (Blk X2 gp 122 [.slice na n nc, .slice ta tl tc]) := Lib.hid (PX1.out.below hB PX1.out.lt)
      have VX2 : Hid (Blk X2 gv 44 (scells ⟨e, t, c, b, r⟩)) := Lib.hid (VX1.out.below hB VX1.out.lt)
      have RX2 : Hid (Blk X2 gr 122 [.slice none 0 0, .slice none 0 0]) := Lib.hid (RX1.out.below hB RX1.out.lt)
      have N1X2 : Hid (Blk X2 gn 3 (ins [t])) := Lib.hid (N1X1.out.below hB N1X1.out.lt)
      have O1X2 : Hid (World.ownsRow X2 w.heap.size 3 1 v1 l.length (ins l)) := Lib.hid (own_lower hO1 BX1.out.size)
      clear BX1 PX1 VX1 RX1 N1X1 hB hO1
      refine ⟨_, rfl, hK.out _ _ (⟨PX2.out, VX2.out⟩) (fun hHeld => ?_)⟩
      clear hK K
      show wpAnyH _ _ _ _ _ _ _ (Act.put _ (some 7) _) _
      simp only [Act.put, List.setIfInBounds_toArray, List.set_cons_zero, List.set_cons_succ]
      refine wpAnyH_ready (rs := [6, 11]) (by kernel_rfl) (by simp) ?_
      refine AllReadyH.cons rfl (fun K hK => ?_) (AllReadyH.cons rfl (fun K hK => ?_) AllReadyH.nil)
      · refine step_ints rfl (.tmp 7) (.tmp 10) rfl w.heap.size v1 l t rfl O1X2.out gn rfl N1X2.out (by rw [HLN.out]; omega) BX2.out.size ?_
        intro a1 c1 X3 hA hO
        have hOwn := O1X2.out
        have hPO := own_ne PX2.out hOwn (by decide)
        have hVO := own_ne VX2.out hOwn (by decide)
        have hRO := own_ne RX2.out hOwn (by decide)
        have BX3 : Hid (Below w.heap.size w X3) := Lib.hid (below_own BX2.out hO hOwn (Nat.le_refl _) BX2.out.size)
        have PX3 : Hid (Blk X3 gp 122 [.slice na n nc, .slice ta tl tc]) := Lib.hid (PX2.out.grown hO hPO)
        have VX3 : Hid (Blk X3 gv 44 (scells ⟨e, t, c, b, r⟩)) := Lib.hid (VX2.out.grown hO hVO)
        have RX3 : Hid (Blk X3 gr 122 [.slice none 0 0, .slice none 0 0]) := Lib.hid (RX2.out.grown hO hRO)
        have A1X3 : Hid (World.ownsRow X3 w.heap.size 3 1 (.slice a1 (l ++ [t]).length c1) (l ++ [t]).length (ins (l ++ [t]))) := Lib.hid (hA)
        clear BX2 PX2 VX2 RX2 hA hO hOwn
        refine hK.out _ _ (⟨PX3.out, VX3.out⟩) (fun hHeld => ?_)
        clear hK K
        show wpAnyH _ _ _ _ _ _ _ (Act.put _ (some 11) _) _
        simp only [Act.put, List.setIfInBounds_toArray, List.set_cons_zero, List.set_cons_succ]
        refine wpAnyH_ready (rs := [9, 11]) (by kernel_rfl) (by simp) ?_
        refine AllReadyH.cons rfl (fun K hK => ?_) (AllReadyH.cons rfl (fun K hK => ?_) AllReadyH.nil)
        · refine step_call rfl 86 #[.tmp 13] #[33] rfl #[.slice ta tl tc] (by simp [Act.eval]) (by go_simp) (clone33_any ta tc tl s X3 (HS.out.below BX3.out) HTN.out HLT.out (by omega)) ?_
          rintro e X4 ⟨v2, rfl, hO2, hB⟩
          have BX4 : Hid (Below w.heap.size w X4) := Lib.hid (BX3.out.trans (hB.mono BX3.out.size))
          have PX4 : Hid (Blk X4 gp 122 [.slice na n nc, .slice ta tl tc]) := Lib.hid (PX3.out.below hB PX3.out.lt)
          have VX4 : Hid (Blk X4 gv 44 (scells ⟨e, t, c, b, r⟩)) := Lib.hid (VX3.out.below hB VX3.out.lt)
          have RX4 : Hid (Blk X4 gr 122 [.slice none 0 0, .slice none 0 0]) := Lib.hid (RX3.out.below hB RX3.out.lt)
          have A1X4 : Hid (World.ownsRow X4 w.heap.size 3 1 (.slice a1 (l ++ [t]).length c1) (l ++ [t]).length (ins (l ++ [t]))) := Lib.hid (ownsRow_keep A1X3.out hB)
          have O2X4 : Hid (World.ownsRow X4 w.heap.size 44 5 v2 s.length (sflat s)) := Lib.hid (own_lower hO2 BX3.out.size)
          have hVO2 : some gv ≠ v2.ownBlock := fun e1 => by have h1 := (hO2.lt gv e1.symm).1; have h2 := VX3.out.lt; omega
          clear BX3 PX3 VX3 RX3 A1X3 hB hO2
          refine ⟨_, rfl, hK.out _ _ (⟨PX4.out, VX4.out⟩) (fun hHeld => ?_)⟩
          clear hK K
          show wpAnyH _ _ _ _ _ _ _ (Act.put _ (some 14) _) _
          simp only [Act.put, List.setIfInBounds_toArray, List.set_cons_zero, List.set_cons_succ]
          refine wpAnyH_ready (rs := [11]) (by kernel_rfl) (by simp) ?_
          refine AllReadyH.cons rfl (fun K hK => ?_) AllReadyH.nil
          refine step_lay33 rfl 15 rfl e t c b r rfl ?_
          intro X5 gm hB hN hg
          have BX5 : Hid (Below w.heap.size w X5) := Lib.hid (BX4.out.trans (hB.mono BX4.out.size))
          have PX5 : Hid (Blk X5 gp 122 [.slice na n nc, .slice ta tl tc]) := Lib.hid (PX4.out.below hB PX4.out.lt)
          have VX5 : Hid (Blk X5 gv 44 (scells ⟨e, t, c, b, r⟩)) := Lib.hid (VX4.out.below hB VX4.out.lt)
          have RX5 : Hid (Blk X5 gr 122 [.slice none 0 0, .slice none 0 0]) := Lib.hid (RX4.out.below hB RX4.out.lt)
          have A1X5 : Hid (World.ownsRow X5 w.heap.size 3 1 (.slice a1 (l ++ [t]).length c1) (l ++ [t]).length (ins (l ++ [t]))) := Lib.hid (ownsRow_keep A1X4.out hB)
          have O2X5 : Hid (World.ownsRow X5 w.heap.size 44 5 v2 s.length (sflat s)) := Lib.hid (ownsRow_keep O2X4.out hB)
          have N2X5 : Hid (Blk X5 gm 44 (scells ⟨e, t, c, b, r⟩)) := Lib.hid (hN)
          clear BX4 PX4 VX4 RX4 A1X4 O2X4 hB hN hg
          refine hK.out _ _ (⟨PX5.out, VX5.out⟩) (fun hHeld => ?_)
          clear hK K
          show wpAnyH _ _ _ _ _ _ _ (Act.put _ (some 16) _) _
          simp only [Act.put, List.setIfInBounds_toArray, List.set_cons_zero, List.set_cons_succ]
          refine wpAnyH_ready (rs := [12]) (by kernel_rfl) (by simp) ?_
          refine AllReadyH.cons rfl (fun K hK => ?_) AllReadyH.nil
          refine step_more33 rfl (.tmp 14) (.tmp 16) rfl w.heap.size v2 s rfl O2X5.out gm _ rfl N2X5.out (by rw [HLT.out]; omega) BX5.out.size ?_
          intro a2 c2 X6 hA hO
          have hOwn := O2X5.out
          have hPO := own_ne PX5.out hOwn (by decide)
          have hVO := hVO2
          have hRO := own_ne RX5.out hOwn (by decide)
          have BX6 : Hid (Below w.heap.size w X6) := Lib.hid (below_own BX5.out hO hOwn (Nat.le_refl _) BX5.out.size)
          have PX6 : Hid (Blk X6 gp 122 [.slice na n nc, .slice ta tl tc]) := Lib.hid (PX5.out.grown hO hPO)
          have VX6 : Hid (Blk X6 gv 44 (scells ⟨e, t, c, b, r⟩)) := Lib.hid (VX5.out.grown hO hVO)
          have RX6 : Hid (Blk X6 gr 122 [.slice none 0 0, .slice none 0 0]) := Lib.hid (RX5.out.grown hO hRO)
          have A1X6 : Hid (World.ownsRow X6 w.heap.size 3 1 (.slice a1 (l ++ [t]).length c1) (l ++ [t]).length (ins (l ++ [t]))) := Lib.hid (own_kept A1X5.out hOwn (by decide) hO)
          have A2X6 : Hid (World.ownsRow X6 w.heap.size 44 5 (.slice a2 (s ++ [Stp.mk e t c b r]).length c2) (s ++ [Stp.mk e t c b r]).length (sflat (s ++ [Stp.mk e t c b r]))) := Lib.hid (hA)
          clear BX5 PX5 VX5 RX5 A1X5 hA hO hOwn
          refine hK.out _ _ (⟨PX6.out, VX6.out⟩) (fun hHeld => ?_)
          clear hK K
          show wpAnyH _ _ _ _ _ _ _ (Act.put _ (some 17) _) _
          simp only [Act.put, List.setIfInBounds_toArray, List.set_cons_zero, List.set_cons_succ]
          refine wpAnyH_take (i := 13) (v := .agg #[.slice a1 (l ++ [t]).length c1, .slice a2 (s ++ [Stp.mk e t c b r]).length c2]) rfl (by kernel_rfl) (by kernel_rfl) (by kernel_rfl) (fun _ _ _ h => h) (Or.inl ⟨by rfl, by intro w' h; kernel_rfl⟩) hHeld ?_
          show wpAnyH _ _ _ _ _ _ _ (Act.put _ (some 18) _) _
          simp only [Act.put, List.setIfInBounds_toArray, List.set_cons_zero, List.set_cons_succ]
          refine wpAnyH_ready (rs := [14]) (by kernel_rfl) (by simp) ?_
          refine AllReadyH.cons rfl (fun K hK => ?_) AllReadyH.nil
          refine step_store122 rfl (.tmp 4) (.tmp 18) rfl gr _ _ a1 a2 (l ++ [t]).length c1 (s ++ [Stp.mk e t c b r]).length c2 rfl rfl RX6.out ?_
          intro X7 hT hO
          have hPO : some gp ≠ some gr := fun e1 => hpr (by injection e1)
          have hVO : some gv ≠ some gr := fun e1 => VX6.out.ne_ RX6.out (by decide) (by injection e1)
          have PX7 : Hid (Blk X7 gp 122 [.slice na n nc, .slice ta tl tc]) := Lib.hid (PX6.out.grown hO hPO)
          have VX7 : Hid (Blk X7 gv 44 (scells ⟨e, t, c, b, r⟩)) := Lib.hid (VX6.out.grown hO hVO)
          have RX7 : Hid (Blk X7 gr 122 [.slice a1 (l ++ [t]).length c1, .slice a2 (s ++ [Stp.mk e t c b r]).length c2]) := Lib.hid (hT)
          have A1X7 : Hid (World.ownsRow X7 w.heap.size 3 1 (.slice a1 (l ++ [t]).length c1) (l ++ [t]).length (ins (l ++ [t]))) := Lib.hid (A1X6.out.kept hO (.inr (fun e1 => own_ne RX6.out A1X6.out (by decide) e1.symm)))
          have A2X7 : Hid (World.ownsRow X7 w.heap.size 44 5 (.slice a2 (s ++ [Stp.mk e t c b r]).length c2) (s ++ [Stp.mk e t c b r]).length (sflat (s ++ [Stp.mk e t c b r]))) := Lib.hid (A2X6.out.kept hO (.inr (fun e1 => own_ne RX6.out A2X6.out (by decide) e1.symm)))
          have BX7 : Hid (Below w.heap.size w X7) := Lib.hid (BX6.out.grown hO BX6.out.size (fun k hk => by injection hk with hk; omega))
          clear PX6 VX6 hT hO
          refine hK.out _ _ (⟨PX7.out, VX7.out⟩) (fun hHeld => ?_)
          clear hK K
          show wpAnyH _ _ _ _ _ _ _ (Act.put _ none _) _
          simp only [Act.put]
          refine wpAnyH_done (by kernel_rfl) ?_ _
          clear hHeld
          go_wp2
          exact bodyPost_ret (result122 Try.results72 _ _ gr 122 a1 a2 (l ++ [t]).length (s ++ [Stp.mk e t c b r]).length c1 c2 rfl RX7.out) rfl ⟨a1, c1, a2, c2, rfl, A1X7.out, A2X7.out, BX7.out⟩
        · refine step_lay33 rfl 15 rfl e t c b r rfl ?_
          intro X4 gm hB hN hg
          have BX4 : Hid (Below w.heap.size w X4) := Lib.hid (BX3.out.trans (hB.mono BX3.out.size))
          have PX4 : Hid (Blk X4 gp 122 [.slice na n nc, .slice ta tl tc]) := Lib.hid (PX3.out.below hB PX3.out.lt)
          have VX4 : Hid (Blk X4 gv 44 (scells ⟨e, t, c, b, r⟩)) := Lib.hid (VX3.out.below hB VX3.out.lt)
          have RX4 : Hid (Blk X4 gr 122 [.slice none 0 0, .slice none 0 0]) := Lib.hid (RX3.out.below hB RX3.out.lt)
          have A1X4 : Hid (World.ownsRow X4 w.heap.size 3 1 (.slice a1 (l ++ [t]).length c1) (l ++ [t]).length (ins (l ++ [t]))) := Lib.hid (ownsRow_keep A1X3.out hB)
          have N2X4 : Hid (Blk X4 gm 44 (scells ⟨e, t, c, b, r⟩)) := Lib.hid (hN)
          clear BX3 PX3 VX3 RX3 A1X3 hB hN hg
          refine hK.out _ _ (⟨PX4.out, VX4.out⟩) (fun hHeld => ?_)
          clear hK K
          show wpAnyH _ _ _ _ _ _ _ (Act.put _ (some 16) _) _
          simp only [Act.put, List.setIfInBounds_toArray, List.set_cons_zero, List.set_cons_succ]
          refine wpAnyH_ready (rs := [9]) (by kernel_rfl) (by simp) ?_
          refine AllReadyH.cons rfl (fun K hK => ?_) AllReadyH.nil
          refine step_call rfl 86 #[.tmp 13] #[33] rfl #[.slice ta tl tc] (by simp [Act.eval]) (by go_simp) (clone33_any ta tc tl s X4 (HS.out.below BX4.out) HTN.out HLT.out (by omega)) ?_
          rintro e X5 ⟨v2, rfl, hO2, hB⟩
          have BX5 : Hid (Below w.heap.size w X5) := Lib.hid (BX4.out.trans (hB.mono BX4.out.size))
          have PX5 : Hid (Blk X5 gp 122 [.slice na n nc, .slice ta tl tc]) := Lib.hid (PX4.out.below hB PX4.out.lt)
          have VX5 : Hid (Blk X5 gv 44 (scells ⟨e, t, c, b, r⟩)) := Lib.hid (VX4.out.below hB VX4.out.lt)
          have RX5 : Hid (Blk X5 gr 122 [.slice none 0 0, .slice none 0 0]) := Lib.hid (RX4.out.below hB RX4.out.lt)
          have A1X5 : Hid (World.ownsRow X5 w.heap.size 3 1 (.slice a1 (l ++ [t]).length c1) (l ++ [t]).length (ins (l ++ [t]))) := Lib.hid (ownsRow_keep A1X4.out hB)
          have N2X5 : Hid (Blk X5 gm 44 (scells ⟨e, t, c, b, r⟩)) := Lib.hid (N2X4.out.below hB N2X4.out.lt)
          have O2X5 : Hid (World.ownsRow X5 w.heap.size 44 5 v2 s.length (sflat s)) := Lib.hid (own_lower hO2 BX4.out.size)
          have hVO2 : some gv ≠ v2.ownBlock := fun e1 => by have h1 := (hO2.lt gv e1.symm).1; have h2 := VX4.out.lt; omega
          clear BX4 PX4 VX4 RX4 A1X4 N2X4 hB hO2
          refine ⟨_, rfl, hK.out _ _ (⟨PX5.out, VX5.out⟩) (fun hHeld => ?_)⟩
          clear hK K
          show wpAnyH _ _ _ _ _ _ _ (Act.put _ (some 14) _) _
          simp only [Act.put, List.setIfInBounds_toArray, List.set_cons_zero, List.set_cons_succ]
          refine wpAnyH_ready (rs := [12]) (by kernel_rfl) (by simp) ?_
          refine AllReadyH.cons rfl (fun K hK => ?_) AllReadyH.nil
          refine step_more33 rfl (.tmp 14) (.tmp 16) rfl w.heap.size v2 s rfl O2X5.out gm _ rfl N2X5.out (by rw [HLT.out]; omega) BX5.out.size ?_
          intro a2 c2 X6 hA hO
          have hOwn := O2X5.out
          have hPO := own_ne PX5.out hOwn (by decide)
          have hVO := hVO2
          have hRO := own_ne RX5.out hOwn (by decide)
          have BX6 : Hid (Below w.heap.size w X6) := Lib.hid (below_own BX5.out hO hOwn (Nat.le_refl _) BX5.out.size)
          have PX6 : Hid (Blk X6 gp 122 [.slice na n nc, .slice ta tl tc]) := Lib.hid (PX5.out.grown hO hPO)
          have VX6 : Hid (Blk X6 gv 44 (scells ⟨e, t, c, b, r⟩)) := Lib.hid (VX5.out.grown hO hVO)
          have RX6 : Hid (Blk X6 gr 122 [.slice none 0 0, .slice none 0 0]) := Lib.hid (RX5.out.grown hO hRO)
          have A1X6 : Hid (World.ownsRow X6 w.heap.size 3 1 (.slice a1 (l ++ [t]).length c1) (l ++ [t]).length (ins (l ++ [t]))) := Lib.hid (own_kept A1X5.out hOwn (by decide) hO)
          have A2X6 : Hid (World.ownsRow X6 w.heap.size 44 5 (.slice a2 (s ++ [Stp.mk e t c b r]).length c2) (s ++ [Stp.mk e t c b r]).length (sflat (s ++ [Stp.mk e t c b r]))) := Lib.hid (hA)
          clear BX5 PX5 VX5 RX5 A1X5 hA hO hOwn
          refine hK.out _ _ (⟨PX6.out, VX6.out⟩) (fun hHeld => ?_)
          clear hK K
          show wpAnyH _ _ _ _ _ _ _ (Act.put _ (some 17) _) _
          simp only [Act.put, List.setIfInBounds_toArray, List.set_cons_zero, List.set_cons_succ]
          refine wpAnyH_take (i := 13) (v := .agg #[.slice a1 (l ++ [t]).length c1, .slice a2 (s ++ [Stp.mk e t c b r]).length c2]) rfl (by kernel_rfl) (by kernel_rfl) (by kernel_rfl) (fun _ _ _ h => h) (Or.inl ⟨by rfl, by intro w' h; kernel_rfl⟩) hHeld ?_
          show wpAnyH _ _ _ _ _ _ _ (Act.put _ (some 18) _) _
          simp only [Act.put, List.setIfInBounds_toArray, List.set_cons_zero, List.set_cons_succ]
          refine wpAnyH_ready (rs := [14]) (by kernel_rfl) (by simp) ?_
          refine AllReadyH.cons rfl (fun K hK => ?_) AllReadyH.nil
          refine step_store122 rfl (.tmp 4) (.tmp 18) rfl gr _ _ a1 a2 (l ++ [t]).length c1 (s ++ [Stp.mk e t c b r]).length c2 rfl rfl RX6.out ?_
          intro X7 hT hO
          have hPO : some gp ≠ some gr := fun e1 => hpr (by injection e1)
          have hVO : some gv ≠ some gr := fun e1 => VX6.out.ne_ RX6.out (by decide) (by injection e1)
          have PX7 : Hid (Blk X7 gp 122 [.slice na n nc, .slice ta tl tc]) := Lib.hid (PX6.out.grown hO hPO)
          have VX7 : Hid (Blk X7 gv 44 (scells ⟨e, t, c, b, r⟩)) := Lib.hid (VX6.out.grown hO hVO)
          have RX7 : Hid (Blk X7 gr 122 [.slice a1 (l ++ [t]).length c1, .slice a2 (s ++ [Stp.mk e t c b r]).length c2]) := Lib.hid (hT)
          have A1X7 : Hid (World.ownsRow X7 w.heap.size 3 1 (.slice a1 (l ++ [t]).length c1) (l ++ [t]).length (ins (l ++ [t]))) := Lib.hid (A1X6.out.kept hO (.inr (fun e1 => own_ne RX6.out A1X6.out (by decide) e1.symm)))
          have A2X7 : Hid (World.ownsRow X7 w.heap.size 44 5 (.slice a2 (s ++ [Stp.mk e t c b r]).length c2) (s ++ [Stp.mk e t c b r]).length (sflat (s ++ [Stp.mk e t c b r]))) := Lib.hid (A2X6.out.kept hO (.inr (fun e1 => own_ne RX6.out A2X6.out (by decide) e1.symm)))
          have BX7 : Hid (Below w.heap.size w X7) := Lib.hid (BX6.out.grown hO BX6.out.size (fun k hk => by injection hk with hk; omega))
          clear PX6 VX6 hT hO
          refine hK.out _ _ (⟨PX7.out, VX7.out⟩) (fun hHeld => ?_)
          clear hK K
          show wpAnyH _ _ _ _ _ _ _ (Act.put _ none _) _
          simp only [Act.put]
          refine wpAnyH_done (by kernel_rfl) ?_ _
          clear hHeld
          go_wp2
          exact bodyPost_ret (result122 Try.results72 _ _ gr 122 a1 a2 (l ++ [t]).length (s ++ [Stp.mk e t c b r]).length c1 c2 rfl RX7.out) rfl ⟨a1, c1, a2, c2, rfl, A1X7.out, A2X7.out, BX7.out⟩
      · refine step_lay33 rfl 15 rfl e t c b r rfl ?_
        intro X3 gm hB hN hg
        have BX3 : Hid (Below w.heap.size w X3) := Lib.hid (BX2.out.trans (hB.mono BX2.out.size))
        have PX3 : Hid (Blk X3 gp 122 [.slice na n nc, .slice ta tl tc]) := Lib.hid (PX2.out.below hB PX2.out.lt)
        have VX3 : Hid (Blk X3 gv 44 (scells ⟨e, t, c, b, r⟩)) := Lib.hid (VX2.out.below hB VX2.out.lt)
        have RX3 : Hid (Blk X3 gr 122 [.slice none 0 0, .slice none 0 0]) := Lib.hid (RX2.out.below hB RX2.out.lt)
        have N1X3 : Hid (Blk X3 gn 3 (ins [t])) := Lib.hid (N1X2.out.below hB N1X2.out.lt)
        have O1X3 : Hid (World.ownsRow X3 w.heap.size 3 1 v1 l.length (ins l)) := Lib.hid (ownsRow_keep O1X2.out hB)
        have N2X3 : Hid (Blk X3 gm 44 (scells ⟨e, t, c, b, r⟩)) := Lib.hid (hN)
        clear BX2 PX2 VX2 RX2 N1X2 O1X2 hB hN hg
        refine hK.out _ _ (⟨PX3.out, VX3.out⟩) (fun hHeld => ?_)
        clear hK K
        show wpAnyH _ _ _ _ _ _ _ (Act.put _ (some 16) _) _
        simp only [Act.put, List.setIfInBounds_toArray, List.set_cons_zero, List.set_cons_succ]
        refine wpAnyH_ready (rs := [6]) (by kernel_rfl) (by simp) ?_
        refine AllReadyH.cons rfl (fun K hK => ?_) AllReadyH.nil
        refine step_ints rfl (.tmp 7) (.tmp 10) rfl w.heap.size v1 l t rfl O1X3.out gn rfl N1X3.out (by rw [HLN.out]; omega) BX3.out.size ?_
        intro a1 c1 X4 hA hO
        have hOwn := O1X3.out
        have hPO := own_ne PX3.out hOwn (by decide)
        have hVO := own_ne VX3.out hOwn (by decide)
        have hRO := own_ne RX3.out hOwn (by decide)
        have hNO := own_ne N2X3.out hOwn (by decide)
        have BX4 : Hid (Below w.heap.size w X4) := Lib.hid (below_own BX3.out hO hOwn (Nat.le_refl _) BX3.out.size)
        have PX4 : Hid (Blk X4 gp 122 [.slice na n nc, .slice ta tl tc]) := Lib.hid (PX3.out.grown hO hPO)
        have VX4 : Hid (Blk X4 gv 44 (scells ⟨e, t, c, b, r⟩)) := Lib.hid (VX3.out.grown hO hVO)
        have RX4 : Hid (Blk X4 gr 122 [.slice none 0 0, .slice none 0 0]) := Lib.hid (RX3.out.grown hO hRO)
        have N2X4 : Hid (Blk X4 gm 44 (scells ⟨e, t, c, b, r⟩)) := Lib.hid (N2X3.out.grown hO hNO)
        have A1X4 : Hid (World.ownsRow X4 w.heap.size 3 1 (.slice a1 (l ++ [t]).length c1) (l ++ [t]).length (ins (l ++ [t]))) := Lib.hid (hA)
        clear BX3 PX3 VX3 RX3 N2X3 hA hO hOwn
        refine hK.out _ _ (⟨PX4.out, VX4.out⟩) (fun hHeld => ?_)
        clear hK K
        show wpAnyH _ _ _ _ _ _ _ (Act.put _ (some 11) _) _
        simp only [Act.put, List.setIfInBounds_toArray, List.set_cons_zero, List.set_cons_succ]
        refine wpAnyH_ready (rs := [9]) (by kernel_rfl) (by simp) ?_
        refine AllReadyH.cons rfl (fun K hK => ?_) AllReadyH.nil
        refine step_call rfl 86 #[.tmp 13] #[33] rfl #[.slice ta tl tc] (by simp [Act.eval]) (by go_simp) (clone33_any ta tc tl s X4 (HS.out.below BX4.out) HTN.out HLT.out (by omega)) ?_
        rintro e X5 ⟨v2, rfl, hO2, hB⟩
        have BX5 : Hid (Below w.heap.size w X5) := Lib.hid (BX4.out.trans (hB.mono BX4.out.size))
        have PX5 : Hid (Blk X5 gp 122 [.slice na n nc, .slice ta tl tc]) := Lib.hid (PX4.out.below hB PX4.out.lt)
        have VX5 : Hid (Blk X5 gv 44 (scells ⟨e, t, c, b, r⟩)) := Lib.hid (VX4.out.below hB VX4.out.lt)
        have RX5 : Hid (Blk X5 gr 122 [.slice none 0 0, .slice none 0 0]) := Lib.hid (RX4.out.below hB RX4.out.lt)
        have N2X5 : Hid (Blk X5 gm 44 (scells ⟨e, t, c, b, r⟩)) := Lib.hid (N2X4.out.below hB N2X4.out.lt)
        have A1X5 : Hid (World.ownsRow X5 w.heap.size 3 1 (.slice a1 (l ++ [t]).length c1) (l ++ [t]).length (ins (l ++ [t]))) := Lib.hid (ownsRow_keep A1X4.out hB)
        have O2X5 : Hid (World.ownsRow X5 w.heap.size 44 5 v2 s.length (sflat s)) := Lib.hid (own_lower hO2 BX4.out.size)
        have hVO2 : some gv ≠ v2.ownBlock := fun e1 => by have h1 := (hO2.lt gv e1.symm).1; have h2 := VX4.out.lt; omega
        clear BX4 PX4 VX4 RX4 N2X4 A1X4 hB hO2
        refine ⟨_, rfl, hK.out _ _ (⟨PX5.out, VX5.out⟩) (fun hHeld => ?_)⟩
        clear hK K
        show wpAnyH _ _ _ _ _ _ _ (Act.put _ (some 14) _) _
        simp only [Act.put, List.setIfInBounds_toArray, List.set_cons_zero, List.set_cons_succ]
        refine wpAnyH_ready (rs := [12]) (by kernel_rfl) (by simp) ?_
        refine AllReadyH.cons rfl (fun K hK => ?_) AllReadyH.nil
        refine step_more33 rfl (.tmp 14) (.tmp 16) rfl w.heap.size v2 s rfl O2X5.out gm _ rfl N2X5.out (by rw [HLT.out]; omega) BX5.out.size ?_
        intro a2 c2 X6 hA hO
        have hOwn := O2X5.out
        have hPO := own_ne PX5.out hOwn (by decide)
        have hVO := hVO2
        have hRO := own_ne RX5.out hOwn (by decide)
        have BX6 : Hid (Below w.heap.size w X6) := Lib.hid (below_own BX5.out hO hOwn (Nat.le_refl _) BX5.out.size)
        have PX6 : Hid (Blk X6 gp 122 [.slice na n nc, .slice ta tl tc]) := Lib.hid (PX5.out.grown hO hPO)
        have VX6 : Hid (Blk X6 gv 44 (scells ⟨e, t, c, b, r⟩)) := Lib.hid (VX5.out.grown hO hVO)
        have RX6 : Hid (Blk X6 gr 122 [.slice none 0 0, .slice none 0 0]) := Lib.hid (RX5.out.grown hO hRO)
        have A1X6 : Hid (World.ownsRow X6 w.heap.size 3 1 (.slice a1 (l ++ [t]).length c1) (l ++ [t]).length (ins (l ++ [t]))) := Lib.hid (own_kept A1X5.out hOwn (by decide) hO)
        have A2X6 : Hid (World.ownsRow X6 w.heap.size 44 5 (.slice a2 (s ++ [Stp.mk e t c b r]).length c2) (s ++ [Stp.mk e t c b r]).length (sflat (s ++ [Stp.mk e t c b r]))) := Lib.hid (hA)
        clear BX5 PX5 VX5 RX5 A1X5 hA hO hOwn
        refine hK.out _ _ (⟨PX6.out, VX6.out⟩) (fun hHeld => ?_)
        clear hK K
        show wpAnyH _ _ _ _ _ _ _ (Act.put _ (some 17) _) _
        simp only [Act.put, List.setIfInBounds_toArray, List.set_cons_zero, List.set_cons_succ]
        refine wpAnyH_take (i := 13) (v := .agg #[.slice a1 (l ++ [t]).length c1, .slice a2 (s ++ [Stp.mk e t c b r]).length c2]) rfl (by kernel_rfl) (by kernel_rfl) (by kernel_rfl) (fun _ _ _ h => h) (Or.inl ⟨by rfl, by intro w' h; kernel_rfl⟩) hHeld ?_
        show wpAnyH _ _ _ _ _ _ _ (Act.put _ (some 18) _) _
        simp only [Act.put, List.setIfInBounds_toArray, List.set_cons_zero, List.set_cons_succ]
        refine wpAnyH_ready (rs := [14]) (by kernel_rfl) (by simp) ?_
        refine AllReadyH.cons rfl (fun K hK => ?_) AllReadyH.nil
        refine step_store122 rfl (.tmp 4) (.tmp 18) rfl gr _ _ a1 a2 (l ++ [t]).length c1 (s ++ [Stp.mk e t c b r]).length c2 rfl rfl RX6.out ?_
        intro X7 hT hO
        have hPO : some gp ≠ some gr := fun e1 => hpr (by injection e1)
        have hVO : some gv ≠ some gr := fun e1 => VX6.out.ne_ RX6.out (by decide) (by injection e1)
        have PX7 : Hid (Blk X7 gp 122 [.slice na n nc, .slice ta tl tc]) := Lib.hid (PX6.out.grown hO hPO)
        have VX7 : Hid (Blk X7 gv 44 (scells ⟨e, t, c, b, r⟩)) := Lib.hid (VX6.out.grown hO hVO)
        have RX7 : Hid (Blk X7 gr 122 [.slice a1 (l ++ [t]).length c1, .slice a2 (s ++ [Stp.mk e t c b r]).length c2]) := Lib.hid (hT)
        have A1X7 : Hid (World.ownsRow X7 w.heap.size 3 1 (.slice a1 (l ++ [t]).length c1) (l ++ [t]).length (ins (l ++ [t]))) := Lib.hid (A1X6.out.kept hO (.inr (fun e1 => own_ne RX6.out A1X6.out (by decide) e1.symm)))
        have A2X7 : Hid (World.ownsRow X7 w.heap.size 44 5 (.slice a2 (s ++ [Stp.mk e t c b r]).length c2) (s ++ [Stp.mk e t c b r]).length (sflat (s ++ [Stp.mk e t c b r]))) := Lib.hid (A2X6.out.kept hO (.inr (fun e1 => own_ne RX6.out A2X6.out (by decide) e1.symm)))
        have BX7 : Hid (Below w.heap.size w X7) := Lib.hid (BX6.out.grown hO BX6.out.size (fun k hk => by injection hk with hk; omega))
        clear PX6 VX6 hT hO
        refine hK.out _ _ (⟨PX7.out, VX7.out⟩) (fun hHeld => ?_)
        clear hK K
        show wpAnyH _ _ _ _ _ _ _ (Act.put _ none _) _
        simp only [Act.put]
        refine wpAnyH_done (by kernel_rfl) ?_ _
        clear hHeld
        go_wp2
        exact bodyPost_ret (result122 Try.results72 _ _ gr 122 a1 a2 (l ++ [t]).length (s ++ [Stp.mk e t c b r]).length c1 c2 rfl RX7.out) rfl ⟨a1, c1, a2, c2, rfl, A1X7.out, A2X7.out, BX7.out⟩
    · refine step_lay33 rfl 15 rfl e t c b r rfl ?_
      intro X2 gm hB hN hg
      have BX2 : Hid (Below w.heap.size w X2) := Lib.hid (BX1.out.trans (hB.mono BX1.out.size))
      have PX2 : Hid (Blk X2 gp 122 [.slice na n nc, .slice ta tl tc]) := Lib.hid (PX1.out.below hB PX1.out.lt)
      have VX2 : Hid (Blk X2 gv 44 (scells ⟨e, t, c, b, r⟩)) := Lib.hid (VX1.out.below hB VX1.out.lt)
      have RX2 : Hid (Blk X2 gr 122 [.slice none 0 0, .slice none 0 0]) := Lib.hid (RX1.out.below hB RX1.out.lt)
      have N1X2 : Hid (Blk X2 gn 3 (ins [t])) := Lib.hid (N1X1.out.below hB N1X1.out.lt)
      have N2X2 : Hid (Blk X2 gm 44 (scells ⟨e, t, c, b, r⟩)) := Lib.hid (hN)
      clear BX1 PX1 VX1 RX1 N1X1 hB hN hg
      refine hK.out _ _ (⟨PX2.out, VX2.out⟩) (fun hHeld => ?_)
      clear hK K
      show wpAnyH _ _ _ _ _ _ _ (Act.put _ (some 16) _) _
      simp only [Act.put, List.setIfInBounds_toArray, List.set_cons_zero, List.set_cons_succ]
      refine wpAnyH_ready (rs := [2]) (by kernel_rfl) (by simp) ?_
      refine AllReadyH.cons rfl (fun K hK => ?_) AllReadyH.nil
      refine step_call rfl 85 #[.tmp 6] #[58] rfl #[.slice na n nc] (by simp [Act.eval]) (by go_simp) (clone58_any na nc n l X2 (HN.out.below BX2.out) HNN.out HLN.out (by omega)) ?_
      rintro e X3 ⟨v1, rfl, hO1, hB⟩
      have BX3 : Hid (Below w.heap.size w X3) := Lib.hid (BX2.out.trans (hB.mono BX2.out.size))
      have PX3 : Hid (Blk X3 gp 122 [.slice na n nc, .slice ta tl tc]) := Lib.hid (PX2.out.below hB PX2.out.lt)
      have VX3 : Hid (Blk X3 gv 44 (scells ⟨e, t, c, b, r⟩)) := Lib.hid (VX2.out.below hB VX2.out.lt)
      have RX3 : Hid (Blk X3 gr 122 [.slice none 0 0, .slice none 0 0]) := Lib.hid (RX2.out.below hB RX2.out.lt)
      have N1X3 : Hid (Blk X3 gn 3 (ins [t])) := Lib.hid (N1X2.out.below hB N1X2.out.lt)
      have N2X3 : Hid (Blk X3 gm 44 (scells ⟨e, t, c, b, r⟩)) := Lib.hid (N2X2.out.below hB N2X2.out.lt)
      have O1X3 : Hid (World.ownsRow X3 w.heap.size 3 1 v1 l.length (ins l)) := Lib.hid (own_lower hO1 BX2.out.size)
      clear BX2 PX2 VX2 RX2 N1X2 N2X2 hB hO1
      refine ⟨_, rfl, hK.out _ _ (⟨PX3.out, VX3.out⟩) (fun hHeld => ?_)⟩
      clear hK K
      show wpAnyH _ _ _ _ _ _ _ (Act.put _ (some 7) _) _
      simp only [Act.put, List.setIfInBounds_toArray, List.set_cons_zero, List.set_cons_succ]
      refine wpAnyH_ready (rs := [6]) (by kernel_rfl) (by simp) ?_
      refine AllReadyH.cons rfl (fun K hK => ?_) AllReadyH.nil
      refine step_ints rfl (.tmp 7) (.tmp 10) rfl w.heap.size v1 l t rfl O1X3.out gn rfl N1X3.out (by rw [HLN.out]; omega) BX3.out.size ?_
      intro a1 c1 X4 hA hO
      have hOwn := O1X3.out
      have hPO := own_ne PX3.out hOwn (by decide)
      have hVO := own_ne VX3.out hOwn (by decide)
      have hRO := own_ne RX3.out hOwn (by decide)
      have hNO := own_ne N2X3.out hOwn (by decide)
      have BX4 : Hid (Below w.heap.size w X4) := Lib.hid (below_own BX3.out hO hOwn (Nat.le_refl _) BX3.out.size)
      have PX4 : Hid (Blk X4 gp 122 [.slice na n nc, .slice ta tl tc]) := Lib.hid (PX3.out.grown hO hPO)
      have VX4 : Hid (Blk X4 gv 44 (scells ⟨e, t, c, b, r⟩)) := Lib.hid (VX3.out.grown hO hVO)
      have RX4 : Hid (Blk X4 gr 122 [.slice none 0 0, .slice none 0 0]) := Lib.hid (RX3.out.grown hO hRO)
      have N2X4 : Hid (Blk X4 gm 44 (scells ⟨e, t, c, b, r⟩)) := Lib.hid (N2X3.out.grown hO hNO)
      have A1X4 : Hid (World.ownsRow X4 w.heap.size 3 1 (.slice a1 (l ++ [t]).length c1) (l ++ [t]).length (ins (l ++ [t]))) := Lib.hid (hA)
      clear BX3 PX3 VX3 RX3 N2X3 hA hO hOwn
      refine hK.out _ _ (⟨PX4.out, VX4.out⟩) (fun hHeld => ?_)
      clear hK K
      show wpAnyH _ _ _ _ _ _ _ (Act.put _ (some 11) _) _
      simp only [Act.put, List.setIfInBounds_toArray, List.set_cons_zero, List.set_cons_succ]
      refine wpAnyH_ready (rs := [9]) (by kernel_rfl) (by simp) ?_
      refine AllReadyH.cons rfl (fun K hK => ?_) AllReadyH.nil
      refine step_call rfl 86 #[.tmp 13] #[33] rfl #[.slice ta tl tc] (by simp [Act.eval]) (by go_simp) (clone33_any ta tc tl s X4 (HS.out.below BX4.out) HTN.out HLT.out (by omega)) ?_
      rintro e X5 ⟨v2, rfl, hO2, hB⟩
      have BX5 : Hid (Below w.heap.size w X5) := Lib.hid (BX4.out.trans (hB.mono BX4.out.size))
      have PX5 : Hid (Blk X5 gp 122 [.slice na n nc, .slice ta tl tc]) := Lib.hid (PX4.out.below hB PX4.out.lt)
      have VX5 : Hid (Blk X5 gv 44 (scells ⟨e, t, c, b, r⟩)) := Lib.hid (VX4.out.below hB VX4.out.lt)
      have RX5 : Hid (Blk X5 gr 122 [.slice none 0 0, .slice none 0 0]) := Lib.hid (RX4.out.below hB RX4.out.lt)
      have N2X5 : Hid (Blk X5 gm 44 (scells ⟨e, t, c, b, r⟩)) := Lib.hid (N2X4.out.below hB N2X4.out.lt)
      have A1X5 : Hid (World.ownsRow X5 w.heap.size 3 1 (.slice a1 (l ++ [t]).length c1) (l ++ [t]).length (ins (l ++ [t]))) := Lib.hid (ownsRow_keep A1X4.out hB)
      have O2X5 : Hid (World.ownsRow X5 w.heap.size 44 5 v2 s.length (sflat s)) := Lib.hid (own_lower hO2 BX4.out.size)
      have hVO2 : some gv ≠ v2.ownBlock := fun e1 => by have h1 := (hO2.lt gv e1.symm).1; have h2 := VX4.out.lt; omega
      clear BX4 PX4 VX4 RX4 N2X4 A1X4 hB hO2
      refine ⟨_, rfl, hK.out _ _ (⟨PX5.out, VX5.out⟩) (fun hHeld => ?_)⟩
      clear hK K
      show wpAnyH _ _ _ _ _ _ _ (Act.put _ (some 14) _) _
      simp only [Act.put, List.setIfInBounds_toArray, List.set_cons_zero, List.set_cons_succ]
      refine wpAnyH_ready (rs := [12]) (by kernel_rfl) (by simp) ?_
      refine AllReadyH.cons rfl (fun K hK => ?_) AllReadyH.nil
      refine step_more33 rfl (.tmp 14) (.tmp 16) rfl w.heap.size v2 s rfl O2X5.out gm _ rfl N2X5.out (by rw [HLT.out]; omega) BX5.out.size ?_
      intro a2 c2 X6 hA hO
      have hOwn := O2X5.out
      have hPO := own_ne PX5.out hOwn (by decide)
      have hVO := hVO2
      have hRO := own_ne RX5.out hOwn (by decide)
      have BX6 : Hid (Below w.heap.size w X6) := Lib.hid (below_own BX5.out hO hOwn (Nat.le_refl _) BX5.out.size)
      have PX6 : Hid (Blk X6 gp 122 [.slice na n nc, .slice ta tl tc]) := Lib.hid (PX5.out.grown hO hPO)
      have VX6 : Hid (Blk X6 gv 44 (scells ⟨e, t, c, b, r⟩)) := Lib.hid (VX5.out.grown hO hVO)
      have RX6 : Hid (Blk X6 gr 122 [.slice none 0 0, .slice none 0 0]) := Lib.hid (RX5.out.grown hO hRO)
      have A1X6 : Hid (World.ownsRow X6 w.heap.size 3 1 (.slice a1 (l ++ [t]).length c1) (l ++ [t]).length (ins (l ++ [t]))) := Lib.hid (own_kept A1X5.out hOwn (by decide) hO)
      have A2X6 : Hid (World.ownsRow X6 w.heap.size 44 5 (.slice a2 (s ++ [Stp.mk e t c b r]).length c2) (s ++ [Stp.mk e t c b r]).length (sflat (s ++ [Stp.mk e t c b r]))) := Lib.hid (hA)
      clear BX5 PX5 VX5 RX5 A1X5 hA hO hOwn
      refine hK.out _ _ (⟨PX6.out, VX6.out⟩) (fun hHeld => ?_)
      clear hK K
      show wpAnyH _ _ _ _ _ _ _ (Act.put _ (some 17) _) _
      simp only [Act.put, List.setIfInBounds_toArray, List.set_cons_zero, List.set_cons_succ]
      refine wpAnyH_take (i := 13) (v := .agg #[.slice a1 (l ++ [t]).length c1, .slice a2 (s ++ [Stp.mk e t c b r]).length c2]) rfl (by kernel_rfl) (by kernel_rfl) (by kernel_rfl) (fun _ _ _ h => h) (Or.inl ⟨by rfl, by intro w' h; kernel_rfl⟩) hHeld ?_
      show wpAnyH _ _ _ _ _ _ _ (Act.put _ (some 18) _) _
      simp only [Act.put, List.setIfInBounds_toArray, List.set_cons_zero, List.set_cons_succ]
      refine wpAnyH_ready (rs := [14]) (by kernel_rfl) (by simp) ?_
      refine AllReadyH.cons rfl (fun K hK => ?_) AllReadyH.nil
      refine step_store122 rfl (.tmp 4) (.tmp 18) rfl gr _ _ a1 a2 (l ++ [t]).length c1 (s ++ [Stp.mk e t c b r]).length c2 rfl rfl RX6.out ?_
      intro X7 hT hO
      have hPO : some gp ≠ some gr := fun e1 => hpr (by injection e1)
      have hVO : some gv ≠ some gr := fun e1 => VX6.out.ne_ RX6.out (by decide) (by injection e1)
      have PX7 : Hid (Blk X7 gp 122 [.slice na n nc, .slice ta tl tc]) := Lib.hid (PX6.out.grown hO hPO)
      have VX7 : Hid (Blk X7 gv 44 (scells ⟨e, t, c, b, r⟩)) := Lib.hid (VX6.out.grown hO hVO)
      have RX7 : Hid (Blk X7 gr 122 [.slice a1 (l ++ [t]).length c1, .slice a2 (s ++ [Stp.mk e t c b r]).length c2]) := Lib.hid (hT)
      have A1X7 : Hid (World.ownsRow X7 w.heap.size 3 1 (.slice a1 (l ++ [t]).length c1) (l ++ [t]).length (ins (l ++ [t]))) := Lib.hid (A1X6.out.kept hO (.inr (fun e1 => own_ne RX6.out A1X6.out (by decide) e1.symm)))
      have A2X7 : Hid (World.ownsRow X7 w.heap.size 44 5 (.slice a2 (s ++ [Stp.mk e t c b r]).length c2) (s ++ [Stp.mk e t c b r]).length (sflat (s ++ [Stp.mk e t c b r]))) := Lib.hid (A2X6.out.kept hO (.inr (fun e1 => own_ne RX6.out A2X6.out (by decide) e1.symm)))
      have BX7 : Hid (Below w.heap.size w X7) := Lib.hid (BX6.out.grown hO BX6.out.size (fun k hk => by injection hk with hk; omega))
      clear PX6 VX6 hT hO
      refine hK.out _ _ (⟨PX7.out, VX7.out⟩) (fun hHeld => ?_)
      clear hK K
      show wpAnyH _ _ _ _ _ _ _ (Act.put _ none _) _
      simp only [Act.put]
      refine wpAnyH_done (by kernel_rfl) ?_ _
      clear hHeld
      go_wp2
      exact bodyPost_ret (result122 Try.results72 _ _ gr 122 a1 a2 (l ++ [t]).length (s ++ [Stp.mk e t c b r]).length c1 c2 rfl RX7.out) rfl ⟨a1, c1, a2, c2, rfl, A1X7.out, A2X7.out, BX7.out⟩
  · refine step_lay33 rfl 15 rfl e t c b r rfl ?_
    intro X1 gm hB hN hg
    have BX1 : Hid (Below w.heap.size w X1) := Lib.hid (BX0.out.trans (hB.mono BX0.out.size))
    have PX1 : Hid (Blk X1 gp 122 [.slice na n nc, .slice ta tl tc]) := Lib.hid (PX0.out.below hB PX0.out.lt)
    have VX1 : Hid (Blk X1 gv 44 (scells ⟨e, t, c, b, r⟩)) := Lib.hid (VX0.out.below hB VX0.out.lt)
    have RX1 : Hid (Blk X1 gr 122 [.slice none 0 0, .slice none 0 0]) := Lib.hid (RX0.out.below hB RX0.out.lt)
    have N2X1 : Hid (Blk X1 gm 44 (scells ⟨e, t, c, b, r⟩)) := Lib.hid (hN)
    clear BX0 PX0 VX0 RX0 hB hN hg
    refine hK.out _ _ (⟨PX1.out, VX1.out⟩) (fun hHeld => ?_)
    clear hK K
    show wpAnyH _ _ _ _ _ _ _ (Act.put _ (some 16) _) _
    simp only [Act.put, List.setIfInBounds_toArray, List.set_cons_zero, List.set_cons_succ]
    refine wpAnyH_ready (rs := [2, 5]) (by kernel_rfl) (by simp) ?_
    refine AllReadyH.cons rfl (fun K hK => ?_) (AllReadyH.cons rfl (fun K hK => ?_) AllReadyH.nil)
    · refine step_call rfl 85 #[.tmp 6] #[58] rfl #[.slice na n nc] (by simp [Act.eval]) (by go_simp) (clone58_any na nc n l X1 (HN.out.below BX1.out) HNN.out HLN.out (by omega)) ?_
      rintro e X2 ⟨v1, rfl, hO1, hB⟩
      have BX2 : Hid (Below w.heap.size w X2) := Lib.hid (BX1.out.trans (hB.mono BX1.out.size))
      have PX2 : Hid (Blk X2 gp 122 [.slice na n nc, .slice ta tl tc]) := Lib.hid (PX1.out.below hB PX1.out.lt)
      have VX2 : Hid (Blk X2 gv 44 (scells ⟨e, t, c, b, r⟩)) := Lib.hid (VX1.out.below hB VX1.out.lt)
      have RX2 : Hid (Blk X2 gr 122 [.slice none 0 0, .slice none 0 0]) := Lib.hid (RX1.out.below hB RX1.out.lt)
      have N2X2 : Hid (Blk X2 gm 44 (scells ⟨e, t, c, b, r⟩)) := Lib.hid (N2X1.out.below hB N2X1.out.lt)
      have O1X2 : Hid (World.ownsRow X2 w.heap.size 3 1 v1 l.length (ins l)) := Lib.hid (own_lower hO1 BX1.out.size)
      clear BX1 PX1 VX1 RX1 N2X1 hB hO1
      refine ⟨_, rfl, hK.out _ _ (⟨PX2.out, VX2.out⟩) (fun hHeld => ?_)⟩
      clear hK K
      show wpAnyH _ _ _ _ _ _ _ (Act.put _ (some 7) _) _
      simp only [Act.put, List.setIfInBounds_toArray, List.set_cons_zero, List.set_cons_succ]
      refine wpAnyH_ready (rs := [5]) (by kernel_rfl) (by simp) ?_
      refine AllReadyH.cons rfl (fun K hK => ?_) AllReadyH.nil
      refine step_int1 rfl 9 rfl t rfl ?_
      intro X3 gn hB hN hg
      have BX3 : Hid (Below w.heap.size w X3) := Lib.hid (BX2.out.trans (hB.mono BX2.out.size))
      have PX3 : Hid (Blk X3 gp 122 [.slice na n nc, .slice ta tl tc]) := Lib.hid (PX2.out.below hB PX2.out.lt)
      have VX3 : Hid (Blk X3 gv 44 (scells ⟨e, t, c, b, r⟩)) := Lib.hid (VX2.out.below hB VX2.out.lt)
      have RX3 : Hid (Blk X3 gr 122 [.slice none 0 0, .slice none 0 0]) := Lib.hid (RX2.out.below hB RX2.out.lt)
      have N2X3 : Hid (Blk X3 gm 44 (scells ⟨e, t, c, b, r⟩)) := Lib.hid (N2X2.out.below hB N2X2.out.lt)
      have O1X3 : Hid (World.ownsRow X3 w.heap.size 3 1 v1 l.length (ins l)) := Lib.hid (ownsRow_keep O1X2.out hB)
      have N1X3 : Hid (Blk X3 gn 3 (ins [t])) := Lib.hid (hN)
      clear BX2 PX2 VX2 RX2 N2X2 O1X2 hB hN hg
      refine hK.out _ _ (⟨PX3.out, VX3.out⟩) (fun hHeld => ?_)
      clear hK K
      show wpAnyH _ _ _ _ _ _ _ (Act.put _ (some 10) _) _
      simp only [Act.put, List.setIfInBounds_toArray, List.set_cons_zero, List.set_cons_succ]
      refine wpAnyH_ready (rs := [6]) (by kernel_rfl) (by simp) ?_
      refine AllReadyH.cons rfl (fun K hK => ?_) AllReadyH.nil
      refine step_ints rfl (.tmp 7) (.tmp 10) rfl w.heap.size v1 l t rfl O1X3.out gn rfl N1X3.out (by rw [HLN.out]; omega) BX3.out.size ?_
      intro a1 c1 X4 hA hO
      have hOwn := O1X3.out
      have hPO := own_ne PX3.out hOwn (by decide)
      have hVO := own_ne VX3.out hOwn (by decide)
      have hRO := own_ne RX3.out hOwn (by decide)
      have hNO := own_ne N2X3.out hOwn (by decide)
      have BX4 : Hid (Below w.heap.size w X4) := Lib.hid (below_own BX3.out hO hOwn (Nat.le_refl _) BX3.out.size)
      have PX4 : Hid (Blk X4 gp 122 [.slice na n nc, .slice ta tl tc]) := Lib.hid (PX3.out.grown hO hPO)
      have VX4 : Hid (Blk X4 gv 44 (scells ⟨e, t, c, b, r⟩)) := Lib.hid (VX3.out.grown hO hVO)
      have RX4 : Hid (Blk X4 gr 122 [.slice none 0 0, .slice none 0 0]) := Lib.hid (RX3.out.grown hO hRO)
      have N2X4 : Hid (Blk X4 gm 44 (scells ⟨e, t, c, b, r⟩)) := Lib.hid (N2X3.out.grown hO hNO)
      have A1X4 : Hid (World.ownsRow X4 w.heap.size 3 1 (.slice a1 (l ++ [t]).length c1) (l ++ [t]).length (ins (l ++ [t]))) := Lib.hid (hA)
      clear BX3 PX3 VX3 RX3 N2X3 hA hO hOwn
      refine hK.out _ _ (⟨PX4.out, VX4.out⟩) (fun hHeld => ?_)
      clear hK K
      show wpAnyH _ _ _ _ _ _ _ (Act.put _ (some 11) _) _
      simp only [Act.put, List.setIfInBounds_toArray, List.set_cons_zero, List.set_cons_succ]
      refine wpAnyH_ready (rs := [9]) (by kernel_rfl) (by simp) ?_
      refine AllReadyH.cons rfl (fun K hK => ?_) AllReadyH.nil
      refine step_call rfl 86 #[.tmp 13] #[33] rfl #[.slice ta tl tc] (by simp [Act.eval]) (by go_simp) (clone33_any ta tc tl s X4 (HS.out.below BX4.out) HTN.out HLT.out (by omega)) ?_
      rintro e X5 ⟨v2, rfl, hO2, hB⟩
      have BX5 : Hid (Below w.heap.size w X5) := Lib.hid (BX4.out.trans (hB.mono BX4.out.size))
      have PX5 : Hid (Blk X5 gp 122 [.slice na n nc, .slice ta tl tc]) := Lib.hid (PX4.out.below hB PX4.out.lt)
      have VX5 : Hid (Blk X5 gv 44 (scells ⟨e, t, c, b, r⟩)) := Lib.hid (VX4.out.below hB VX4.out.lt)
      have RX5 : Hid (Blk X5 gr 122 [.slice none 0 0, .slice none 0 0]) := Lib.hid (RX4.out.below hB RX4.out.lt)
      have N2X5 : Hid (Blk X5 gm 44 (scells ⟨e, t, c, b, r⟩)) := Lib.hid (N2X4.out.below hB N2X4.out.lt)
      have A1X5 : Hid (World.ownsRow X5 w.heap.size 3 1 (.slice a1 (l ++ [t]).length c1) (l ++ [t]).length (ins (l ++ [t]))) := Lib.hid (ownsRow_keep A1X4.out hB)
      have O2X5 : Hid (World.ownsRow X5 w.heap.size 44 5 v2 s.length (sflat s)) := Lib.hid (own_lower hO2 BX4.out.size)
      have hVO2 : some gv ≠ v2.ownBlock := fun e1 => by have h1 := (hO2.lt gv e1.symm).1; have h2 := VX4.out.lt; omega
      clear BX4 PX4 VX4 RX4 N2X4 A1X4 hB hO2
      refine ⟨_, rfl, hK.out _ _ (⟨PX5.out, VX5.out⟩) (fun hHeld => ?_)⟩
      clear hK K
      show wpAnyH _ _ _ _ _ _ _ (Act.put _ (some 14) _) _
      simp only [Act.put, List.setIfInBounds_toArray, List.set_cons_zero, List.set_cons_succ]
      refine wpAnyH_ready (rs := [12]) (by kernel_rfl) (by simp) ?_
      refine AllReadyH.cons rfl (fun K hK => ?_) AllReadyH.nil
      refine step_more33 rfl (.tmp 14) (.tmp 16) rfl w.heap.size v2 s rfl O2X5.out gm _ rfl N2X5.out (by rw [HLT.out]; omega) BX5.out.size ?_
      intro a2 c2 X6 hA hO
      have hOwn := O2X5.out
      have hPO := own_ne PX5.out hOwn (by decide)
      have hVO := hVO2
      have hRO := own_ne RX5.out hOwn (by decide)
      have BX6 : Hid (Below w.heap.size w X6) := Lib.hid (below_own BX5.out hO hOwn (Nat.le_refl _) BX5.out.size)
      have PX6 : Hid (Blk X6 gp 122 [.slice na n nc, .slice ta tl tc]) := Lib.hid (PX5.out.grown hO hPO)
      have VX6 : Hid (Blk X6 gv 44 (scells ⟨e, t, c, b, r⟩)) := Lib.hid (VX5.out.grown hO hVO)
      have RX6 : Hid (Blk X6 gr 122 [.slice none 0 0, .slice none 0 0]) := Lib.hid (RX5.out.grown hO hRO)
      have A1X6 : Hid (World.ownsRow X6 w.heap.size 3 1 (.slice a1 (l ++ [t]).length c1) (l ++ [t]).length (ins (l ++ [t]))) := Lib.hid (own_kept A1X5.out hOwn (by decide) hO)
      have A2X6 : Hid (World.ownsRow X6 w.heap.size 44 5 (.slice a2 (s ++ [Stp.mk e t c b r]).length c2) (s ++ [Stp.mk e t c b r]).length (sflat (s ++ [Stp.mk e t c b r]))) := Lib.hid (hA)
      clear BX5 PX5 VX5 RX5 A1X5 hA hO hOwn
      refine hK.out _ _ (⟨PX6.out, VX6.out⟩) (fun hHeld => ?_)
      clear hK K
      show wpAnyH _ _ _ _ _ _ _ (Act.put _ (some 17) _) _
      simp only [Act.put, List.setIfInBounds_toArray, List.set_cons_zero, List.set_cons_succ]
      refine wpAnyH_take (i := 13) (v := .agg #[.slice a1 (l ++ [t]).length c1, .slice a2 (s ++ [Stp.mk e t c b r]).length c2]) rfl (by kernel_rfl) (by kernel_rfl) (by kernel_rfl) (fun _ _ _ h => h) (Or.inl ⟨by rfl, by intro w' h; kernel_rfl⟩) hHeld ?_
      show wpAnyH _ _ _ _ _ _ _ (Act.put _ (some 18) _) _
      simp only [Act.put, List.setIfInBounds_toArray, List.set_cons_zero, List.set_cons_succ]
      refine wpAnyH_ready (rs := [14]) (by kernel_rfl) (by simp) ?_
      refine AllReadyH.cons rfl (fun K hK => ?_) AllReadyH.nil
      refine step_store122 rfl (.tmp 4) (.tmp 18) rfl gr _ _ a1 a2 (l ++ [t]).length c1 (s ++ [Stp.mk e t c b r]).length c2 rfl rfl RX6.out ?_
      intro X7 hT hO
      have hPO : some gp ≠ some gr := fun e1 => hpr (by injection e1)
      have hVO : some gv ≠ some gr := fun e1 => VX6.out.ne_ RX6.out (by decide) (by injection e1)
      have PX7 : Hid (Blk X7 gp 122 [.slice na n nc, .slice ta tl tc]) := Lib.hid (PX6.out.grown hO hPO)
      have VX7 : Hid (Blk X7 gv 44 (scells ⟨e, t, c, b, r⟩)) := Lib.hid (VX6.out.grown hO hVO)
      have RX7 : Hid (Blk X7 gr 122 [.slice a1 (l ++ [t]).length c1, .slice a2 (s ++ [Stp.mk e t c b r]).length c2]) := Lib.hid (hT)
      have A1X7 : Hid (World.ownsRow X7 w.heap.size 3 1 (.slice a1 (l ++ [t]).length c1) (l ++ [t]).length (ins (l ++ [t]))) := Lib.hid (A1X6.out.kept hO (.inr (fun e1 => own_ne RX6.out A1X6.out (by decide) e1.symm)))
      have A2X7 : Hid (World.ownsRow X7 w.heap.size 44 5 (.slice a2 (s ++ [Stp.mk e t c b r]).length c2) (s ++ [Stp.mk e t c b r]).length (sflat (s ++ [Stp.mk e t c b r]))) := Lib.hid (A2X6.out.kept hO (.inr (fun e1 => own_ne RX6.out A2X6.out (by decide) e1.symm)))
      have BX7 : Hid (Below w.heap.size w X7) := Lib.hid (BX6.out.grown hO BX6.out.size (fun k hk => by injection hk with hk; omega))
      clear PX6 VX6 hT hO
      refine hK.out _ _ (⟨PX7.out, VX7.out⟩) (fun hHeld => ?_)
      clear hK K
      show wpAnyH _ _ _ _ _ _ _ (Act.put _ none _) _
      simp only [Act.put]
      refine wpAnyH_done (by kernel_rfl) ?_ _
      clear hHeld
      go_wp2
      exact bodyPost_ret (result122 Try.results72 _ _ gr 122 a1 a2 (l ++ [t]).length (s ++ [Stp.mk e t c b r]).length c1 c2 rfl RX7.out) rfl ⟨a1, c1, a2, c2, rfl, A1X7.out, A2X7.out, BX7.out⟩
    · refine step_int1 rfl 9 rfl t rfl ?_
      intro X2 gn hB hN hg
      have BX2 : Hid (Below w.heap.size w X2) := Lib.hid (BX1.out.trans (hB.mono BX1.out.size))
      have PX2 : Hid (Blk X2 gp 122 [.slice na n nc, .slice ta tl tc]) := Lib.hid (PX1.out.below hB PX1.out.lt)
      have VX2 : Hid (Blk X2 gv 44 (scells ⟨e, t, c, b, r⟩)) := Lib.hid (VX1.out.below hB VX1.out.lt)
      have RX2 : Hid (Blk X2 gr 122 [.slice none 0 0, .slice none 0 0]) := Lib.hid (RX1.out.below hB RX1.out.lt)
      have N2X2 : Hid (Blk X2 gm 44 (scells ⟨e, t, c, b, r⟩)) := Lib.hid (N2X1.out.below hB N2X1.out.lt)
      have N1X2 : Hid (Blk X2 gn 3 (ins [t])) := Lib.hid (hN)
      clear BX1 PX1 VX1 RX1 N2X1 hB hN hg
      refine hK.out _ _ (⟨PX2.out, VX2.out⟩) (fun hHeld => ?_)
      clear hK K
      show wpAnyH _ _ _ _ _ _ _ (Act.put _ (some 10) _) _
      simp only [Act.put, List.setIfInBounds_toArray, List.set_cons_zero, List.set_cons_succ]
      refine wpAnyH_ready (rs := [2]) (by kernel_rfl) (by simp) ?_
      refine AllReadyH.cons rfl (fun K hK => ?_) AllReadyH.nil
      refine step_call rfl 85 #[.tmp 6] #[58] rfl #[.slice na n nc] (by simp [Act.eval]) (by go_simp) (clone58_any na nc n l X2 (HN.out.below BX2.out) HNN.out HLN.out (by omega)) ?_
      rintro e X3 ⟨v1, rfl, hO1, hB⟩
      have BX3 : Hid (Below w.heap.size w X3) := Lib.hid (BX2.out.trans (hB.mono BX2.out.size))
      have PX3 : Hid (Blk X3 gp 122 [.slice na n nc, .slice ta tl tc]) := Lib.hid (PX2.out.below hB PX2.out.lt)
      have VX3 : Hid (Blk X3 gv 44 (scells ⟨e, t, c, b, r⟩)) := Lib.hid (VX2.out.below hB VX2.out.lt)
      have RX3 : Hid (Blk X3 gr 122 [.slice none 0 0, .slice none 0 0]) := Lib.hid (RX2.out.below hB RX2.out.lt)
      have N2X3 : Hid (Blk X3 gm 44 (scells ⟨e, t, c, b, r⟩)) := Lib.hid (N2X2.out.below hB N2X2.out.lt)
      have N1X3 : Hid (Blk X3 gn 3 (ins [t])) := Lib.hid (N1X2.out.below hB N1X2.out.lt)
      have O1X3 : Hid (World.ownsRow X3 w.heap.size 3 1 v1 l.length (ins l)) := Lib.hid (own_lower hO1 BX2.out.size)
      clear BX2 PX2 VX2 RX2 N2X2 N1X2 hB hO1
      refine ⟨_, rfl, hK.out _ _ (⟨PX3.out, VX3.out⟩) (fun hHeld => ?_)⟩
      clear hK K
      show wpAnyH _ _ _ _ _ _ _ (Act.put _ (some 7) _) _
      simp only [Act.put, List.setIfInBounds_toArray, List.set_cons_zero, List.set_cons_succ]
      refine wpAnyH_ready (rs := [6]) (by kernel_rfl) (by simp) ?_
      refine AllReadyH.cons rfl (fun K hK => ?_) AllReadyH.nil
      refine step_ints rfl (.tmp 7) (.tmp 10) rfl w.heap.size v1 l t rfl O1X3.out gn rfl N1X3.out (by rw [HLN.out]; omega) BX3.out.size ?_
      intro a1 c1 X4 hA hO
      have hOwn := O1X3.out
      have hPO := own_ne PX3.out hOwn (by decide)
      have hVO := own_ne VX3.out hOwn (by decide)
      have hRO := own_ne RX3.out hOwn (by decide)
      have hNO := own_ne N2X3.out hOwn (by decide)
      have BX4 : Hid (Below w.heap.size w X4) := Lib.hid (below_own BX3.out hO hOwn (Nat.le_refl _) BX3.out.size)
      have PX4 : Hid (Blk X4 gp 122 [.slice na n nc, .slice ta tl tc]) := Lib.hid (PX3.out.grown hO hPO)
      have VX4 : Hid (Blk X4 gv 44 (scells ⟨e, t, c, b, r⟩)) := Lib.hid (VX3.out.grown hO hVO)
      have RX4 : Hid (Blk X4 gr 122 [.slice none 0 0, .slice none 0 0]) := Lib.hid (RX3.out.grown hO hRO)
      have N2X4 : Hid (Blk X4 gm 44 (scells ⟨e, t, c, b, r⟩)) := Lib.hid (N2X3.out.grown hO hNO)
      have A1X4 : Hid (World.ownsRow X4 w.heap.size 3 1 (.slice a1 (l ++ [t]).length c1) (l ++ [t]).length (ins (l ++ [t]))) := Lib.hid (hA)
      clear BX3 PX3 VX3 RX3 N2X3 hA hO hOwn
      refine hK.out _ _ (⟨PX4.out, VX4.out⟩) (fun hHeld => ?_)
      clear hK K
      show wpAnyH _ _ _ _ _ _ _ (Act.put _ (some 11) _) _
      simp only [Act.put, List.setIfInBounds_toArray, List.set_cons_zero, List.set_cons_succ]
      refine wpAnyH_ready (rs := [9]) (by kernel_rfl) (by simp) ?_
      refine AllReadyH.cons rfl (fun K hK => ?_) AllReadyH.nil
      refine step_call rfl 86 #[.tmp 13] #[33] rfl #[.slice ta tl tc] (by simp [Act.eval]) (by go_simp) (clone33_any ta tc tl s X4 (HS.out.below BX4.out) HTN.out HLT.out (by omega)) ?_
      rintro e X5 ⟨v2, rfl, hO2, hB⟩
      have BX5 : Hid (Below w.heap.size w X5) := Lib.hid (BX4.out.trans (hB.mono BX4.out.size))
      have PX5 : Hid (Blk X5 gp 122 [.slice na n nc, .slice ta tl tc]) := Lib.hid (PX4.out.below hB PX4.out.lt)
      have VX5 : Hid (Blk X5 gv 44 (scells ⟨e, t, c, b, r⟩)) := Lib.hid (VX4.out.below hB VX4.out.lt)
      have RX5 : Hid (Blk X5 gr 122 [.slice none 0 0, .slice none 0 0]) := Lib.hid (RX4.out.below hB RX4.out.lt)
      have N2X5 : Hid (Blk X5 gm 44 (scells ⟨e, t, c, b, r⟩)) := Lib.hid (N2X4.out.below hB N2X4.out.lt)
      have A1X5 : Hid (World.ownsRow X5 w.heap.size 3 1 (.slice a1 (l ++ [t]).length c1) (l ++ [t]).length (ins (l ++ [t]))) := Lib.hid (ownsRow_keep A1X4.out hB)
      have O2X5 : Hid (World.ownsRow X5 w.heap.size 44 5 v2 s.length (sflat s)) := Lib.hid (own_lower hO2 BX4.out.size)
      have hVO2 : some gv ≠ v2.ownBlock := fun e1 => by have h1 := (hO2.lt gv e1.symm).1; have h2 := VX4.out.lt; omega
      clear BX4 PX4 VX4 RX4 N2X4 A1X4 hB hO2
      refine ⟨_, rfl, hK.out _ _ (⟨PX5.out, VX5.out⟩) (fun hHeld => ?_)⟩
      clear hK K
      show wpAnyH _ _ _ _ _ _ _ (Act.put _ (some 14) _) _
      simp only [Act.put, List.setIfInBounds_toArray, List.set_cons_zero, List.set_cons_succ]
      refine wpAnyH_ready (rs := [12]) (by kernel_rfl) (by simp) ?_
      refine AllReadyH.cons rfl (fun K hK => ?_) AllReadyH.nil
      refine step_more33 rfl (.tmp 14) (.tmp 16) rfl w.heap.size v2 s rfl O2X5.out gm _ rfl N2X5.out (by rw [HLT.out]; omega) BX5.out.size ?_
      intro a2 c2 X6 hA hO
      have hOwn := O2X5.out
      have hPO := own_ne PX5.out hOwn (by decide)
      have hVO := hVO2
      have hRO := own_ne RX5.out hOwn (by decide)
      have BX6 : Hid (Below w.heap.size w X6) := Lib.hid (below_own BX5.out hO hOwn (Nat.le_refl _) BX5.out.size)
      have PX6 : Hid (Blk X6 gp 122 [.slice na n nc, .slice ta tl tc]) := Lib.hid (PX5.out.grown hO hPO)
      have VX6 : Hid (Blk X6 gv 44 (scells ⟨e, t, c, b, r⟩)) := Lib.hid (VX5.out.grown hO hVO)
      have RX6 : Hid (Blk X6 gr 122 [.slice none 0 0, .slice none 0 0]) := Lib.hid (RX5.out.grown hO hRO)
      have A1X6 : Hid (World.ownsRow X6 w.heap.size 3 1 (.slice a1 (l ++ [t]).length c1) (l ++ [t]).length (ins (l ++ [t]))) := Lib.hid (own_kept A1X5.out hOwn (by decide) hO)
      have A2X6 : Hid (World.ownsRow X6 w.heap.size 44 5 (.slice a2 (s ++ [Stp.mk e t c b r]).length c2) (s ++ [Stp.mk e t c b r]).length (sflat (s ++ [Stp.mk e t c b r]))) := Lib.hid (hA)
      clear BX5 PX5 VX5 RX5 A1X5 hA hO hOwn
      refine hK.out _ _ (⟨PX6.out, VX6.out⟩) (fun hHeld => ?_)
      clear hK K
      show wpAnyH _ _ _ _ _ _ _ (Act.put _ (some 17) _) _
      simp only [Act.put, List.setIfInBounds_toArray, List.set_cons_zero, List.set_cons_succ]
      refine wpAnyH_take (i := 13) (v := .agg #[.slice a1 (l ++ [t]).length c1, .slice a2 (s ++ [Stp.mk e t c b r]).length c2]) rfl (by kernel_rfl) (by kernel_rfl) (by kernel_rfl) (fun _ _ _ h => h) (Or.inl ⟨by rfl, by intro w' h; kernel_rfl⟩) hHeld ?_
      show wpAnyH _ _ _ _ _ _ _ (Act.put _ (some 18) _) _
      simp only [Act.put, List.setIfInBounds_toArray, List.set_cons_zero, List.set_cons_succ]
      refine wpAnyH_ready (rs := [14]) (by kernel_rfl) (by simp) ?_
      refine AllReadyH.cons rfl (fun K hK => ?_) AllReadyH.nil
      refine step_store122 rfl (.tmp 4) (.tmp 18) rfl gr _ _ a1 a2 (l ++ [t]).length c1 (s ++ [Stp.mk e t c b r]).length c2 rfl rfl RX6.out ?_
      intro X7 hT hO
      have hPO : some gp ≠ some gr := fun e1 => hpr (by injection e1)
      have hVO : some gv ≠ some gr := fun e1 => VX6.out.ne_ RX6.out (by decide) (by injection e1)
      have PX7 : Hid (Blk X7 gp 122 [.slice na n nc, .slice ta tl tc]) := Lib.hid (PX6.out.grown hO hPO)
      have VX7 : Hid (Blk X7 gv 44 (scells ⟨e, t, c, b, r⟩)) := Lib.hid (VX6.out.grown hO hVO)
      have RX7 : Hid (Blk X7 gr 122 [.slice a1 (l ++ [t]).length c1, .slice a2 (s ++ [Stp.mk e t c b r]).length c2]) := Lib.hid (hT)
      have A1X7 : Hid (World.ownsRow X7 w.heap.size 3 1 (.slice a1 (l ++ [t]).length c1) (l ++ [t]).length (ins (l ++ [t]))) := Lib.hid (A1X6.out.kept hO (.inr (fun e1 => own_ne RX6.out A1X6.out (by decide) e1.symm)))
      have A2X7 : Hid (World.ownsRow X7 w.heap.size 44 5 (.slice a2 (s ++ [Stp.mk e t c b r]).length c2) (s ++ [Stp.mk e t c b r]).length (sflat (s ++ [Stp.mk e t c b r]))) := Lib.hid (A2X6.out.kept hO (.inr (fun e1 => own_ne RX6.out A2X6.out (by decide) e1.symm)))
      have BX7 : Hid (Below w.heap.size w X7) := Lib.hid (BX6.out.grown hO BX6.out.size (fun k hk => by injection hk with hk; omega))
      clear PX6 VX6 hT hO
      refine hK.out _ _ (⟨PX7.out, VX7.out⟩) (fun hHeld => ?_)
      clear hK K
      show wpAnyH _ _ _ _ _ _ _ (Act.put _ none _) _
      simp only [Act.put]
      refine wpAnyH_done (by kernel_rfl) ?_ _
      clear hHeld
      go_wp2
      exact bodyPost_ret (result122 Try.results72 _ _ gr 122 a1 a2 (l ++ [t]).length (s ++ [Stp.mk e t c b r]).length c1 c2 rfl RX7.out) rfl ⟨a1, c1, a2, c2, rfl, A1X7.out, A2X7.out, BX7.out⟩
end Go.Proofs.Ytnnimjaigciedaa
