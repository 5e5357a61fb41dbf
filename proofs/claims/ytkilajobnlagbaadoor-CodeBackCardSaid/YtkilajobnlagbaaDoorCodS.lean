/-
  law11.light 9, law11.to 12: worlds as the program's.
-/
import Derived.Test.YtkilajobnlagbaaDoorCodR
import Derived.Test.YtkilajobnlagbaaDoorCodQ
namespace Go.Proofs.YtkilajobnlagbaaDoor
open Go.RowKit
set_option linter.unusedVariables false

def wldV (fa : Option Addr) (fn fc : Nat) (pa : Option Addr) (pn pc : Nat) (ht : Int) : Value := .agg #[.slice fa fn fc, .slice pa pn pc, .int .u64 ht]
def lightB (fn pn : Nat) : Bool := decide (fn ≤ 300) && decide (pn ≤ 300)
set_option maxRecDepth 100000 in
theorem light_any (fa : Option Addr) (fn fc : Nat) (pa : Option Addr) (pn pc : Nat) (ht : Int) (w : World) (hf : fn ≤ maxLen) (hp : pn ≤ maxLen) :
    Calls Tryd.prog 9 #[wldV fa fn fc pa pn pc ht] w fun e w' => e = .returned (.bool (lightB fn pn)) ∧ Below w.heap.size w w' := by
  unfold wldV
  have f0 : (0 : Int) ≤ (fn : Int) := Int.natCast_nonneg _
  have p0 : (0 : Int) ≤ (pn : Int) := Int.natCast_nonneg _
  have hB := up1 w
  have HB := Lib.hid hB
  clear hB hf hp
  by_cases h1 : fn ≤ 300
  · have d1 : (fn : Int) ≤ 300 := by omega
    by_cases h2 : pn ≤ 300
    · have d2 : (pn : Int) ≤ 300 := by omega
      have hv : lightB fn pn = true := by simp [lightB, h1, h2]
      rw [hv]
      clear h1 h2 hv
      go_enter Tryd.func9, Tryd.ntmps9
      go_wp2
      go_ret
      exact ⟨rfl, HB.out _⟩
    · have d2 : ¬ ((pn : Int) ≤ 300) := by omega
      have hv : lightB fn pn = false := by simp [lightB, h2]
      rw [hv]
      clear h1 h2 hv
      go_enter Tryd.func9, Tryd.ntmps9
      go_wp2
      go_ret
      exact ⟨rfl, HB.out _⟩
  · have d1 : ¬ ((fn : Int) ≤ 300) := by omega
    have hv : lightB fn pn = false := by simp [lightB, h1]
    rw [hv]
    clear h1 hv
    go_enter Tryd.func9, Tryd.ntmps9
    go_wp2
    go_ret
    exact ⟨rfl, HB.out _⟩

def bools (ps : List Bool) : List Value := ps.map Value.bool
theorem info25b : (Tryd.prog.info? 25).map (fun i => (i.zero, i.size, i.bytes)) = some (some (.int .u64 0), 1, 8) := by kernel_rfl
theorem info4bb : (Tryd.prog.info? 4).map (fun i => (i.zero, i.size, i.bytes)) = some (some (.bool false), 1, 1) := by kernel_rfl
theorem info33 : (Tryd.prog.info? 33).map (·.size) = some 3 := by kernel_rfl
theorem FRow.of {w : World} {g n : Nat} {fs : List Int} {sp : List Value} (h : Blk w g 25 (u64s fs ++ sp)) (hl : fs.length = n) (hw : ∀ x ∈ fs, Word x) : FRow w (some ⟨g, 0, none⟩) n fs :=
  ⟨hl, hw, fun i hi => ⟨g, 0, rfl, h.lt, by
    rw [Nat.zero_add, h.cell, List.getElem?_append_left (by simp [u64s]; exact hi)]
    simp [u64s, List.getD, hi]⟩⟩
theorem BRow.of {w : World} {g n : Nat} {ps : List Bool} {sp : List Value} (h : Blk w g 4 (bools ps ++ sp)) (hl : ps.length = n) : BRow w (some ⟨g, 0, none⟩) n ps :=
  ⟨hl, fun i hi => ⟨g, 0, rfl, h.lt, by
    rw [Nat.zero_add, h.cell, List.getElem?_append_left (by simp [bools]; exact hi)]
    simp [bools, List.getD, hi]⟩⟩

section
variable {ops : Array Oper} {o : Oper} {a : Act} {w : World} {K : Act → World → Prop} {Q : Exit → Act → World → Prop} {E : Prop}
set_option maxRecDepth 100000 in
theorem step_lay23 (hw : Region.wanted o (yielded ops a.tmps) = true) (ho : o.op = .buildSlice 23 0 #[])
    (h : ∀ Y g, Below w.heap.size w Y → Blk Y g 25 [] → w.heap.size ≤ g → K (a.put o.dst (.slice (some ⟨g, 0, none⟩) 0 0)) Y) :
    if Region.wanted o (yielded ops a.tmps) = true then Oper.wp Tryd.prog o a w K Q else E :=
  step_lay hw 23 0 #[] ho #[] (by simp) _ (w.alloc (.cells #[] 25)) (by kernel_rfl) (h _ _ (up1 _ _) (Blk.mk_ (cs := []) rfl) (Nat.le_refl _))
set_option maxRecDepth 100000 in
theorem step_lay24 (hw : Region.wanted o (yielded ops a.tmps) = true) (ho : o.op = .buildSlice 24 0 #[])
    (h : ∀ Y g, Below w.heap.size w Y → Blk Y g 4 [] → w.heap.size ≤ g → K (a.put o.dst (.slice (some ⟨g, 0, none⟩) 0 0)) Y) :
    if Region.wanted o (yielded ops a.tmps) = true then Oper.wp Tryd.prog o a w K Q else E :=
  step_lay hw 24 0 #[] ho #[] (by simp) _ (w.alloc (.cells #[] 4)) (by kernel_rfl) (h _ _ (up1 _ _) (Blk.mk_ (cs := []) rfl) (Nat.le_refl _))
set_option maxRecDepth 100000 in
theorem step_app23 (hw : Region.wanted o (yielded ops a.tmps) = true) (s x : Operand) (ho : o.op = .call { callee := .builtin .append, args := #[s, x], argTypes := #[23, 23] }) (g0 : Nat) (hs : a.eval s = .slice (some ⟨g0, 0, none⟩) 0 0) (hB : Blk w g0 25 [])
    (ad : Option Addr) (m c : Nat) (hx : a.eval x = .slice ad m c) (fs : List Int) (hE : FRow w ad m fs) (hm : m ≤ 300)
    (h : ∀ Y g cap sp, w.grownBy Y (some g0) → Blk Y g 25 (u64s fs ++ sp) → (g = g0 ∨ g = w.heap.size) → K (a.put o.dst (.slice (some ⟨g, 0, none⟩) m cap)) Y) :
    if Region.wanted o (yielded ops a.tmps) = true then Oper.wp Tryd.prog o a w K Q else E := by
  obtain ⟨i0, hi, hz0, hz1, hz2⟩ := info_parts info25b
  have hl := hE.len
  obtain ⟨g, cap, sp, W, hr, hb, _, _, hg, hgr⟩ := append_empty (P := Tryd.prog) (w := w) 23 25 i0 _ 1 8 Tryd.underlying23 hi hz0 hz1 hz2 rfl (by decide) g0 hB ad m c (u64s fs) (by simp [u64s, hl]) (fun b hb j u hu => by
    have hj : j < fs.length := by
      have := (List.getElem?_eq_some_iff.1 hu).1
      simpa [u64s] using this
    obtain ⟨b0, off, he, hb0, hc⟩ := hE.at_ j hj
    rw [hb] at he
    injection he with he
    subst he
    rw [Go.WideShapes.add_plain, hc, ← hu]
    simp [u64s, List.getD, hj]) (fun h => by
      rcases Nat.eq_zero_or_pos m with h0 | h0
      · exact h0
      · obtain ⟨b0, off, he, _⟩ := hE.at_ 0 (by omega)
        rw [h] at he; cases he) (fun u hu => by simp only [u64s, List.mem_map] at hu; obtain ⟨x, _, rfl⟩ := hu; rfl) (by unfold maxLen; omega) (by omega)
  exact step_append hw s x 23 23 ho _ W (fun ty => by rw [hs, hx]; exact hr ty) (h W g cap sp hgr hb hg)
set_option maxRecDepth 100000 in
theorem step_app24 (hw : Region.wanted o (yielded ops a.tmps) = true) (s x : Operand) (ho : o.op = .call { callee := .builtin .append, args := #[s, x], argTypes := #[24, 24] }) (g0 : Nat) (hs : a.eval s = .slice (some ⟨g0, 0, none⟩) 0 0) (hB : Blk w g0 4 [])
    (ad : Option Addr) (m c : Nat) (hx : a.eval x = .slice ad m c) (ps : List Bool) (hE : BRow w ad m ps) (hm : m ≤ 300)
    (h : ∀ Y g cap sp, w.grownBy Y (some g0) → Blk Y g 4 (bools ps ++ sp) → (g = g0 ∨ g = w.heap.size) → K (a.put o.dst (.slice (some ⟨g, 0, none⟩) m cap)) Y) :
    if Region.wanted o (yielded ops a.tmps) = true then Oper.wp Tryd.prog o a w K Q else E := by
  obtain ⟨i0, hi, hz0, hz1, hz2⟩ := info_parts info4bb
  have hl := hE.len
  obtain ⟨g, cap, sp, W, hr, hb, _, _, hg, hgr⟩ := append_empty (P := Tryd.prog) (w := w) 24 4 i0 _ 1 1 Tryd.underlying24 hi hz0 hz1 hz2 rfl (by decide) g0 hB ad m c (bools ps) (by simp [bools, hl]) (fun b hb j u hu => by
    have hj : j < ps.length := by
      have := (List.getElem?_eq_some_iff.1 hu).1
      simpa [bools] using this
    obtain ⟨b0, off, he, hb0, hc⟩ := hE.at_ j hj
    rw [hb] at he
    injection he with he
    subst he
    rw [Go.WideShapes.add_plain, hc, ← hu]
    simp [bools, List.getD, hj]) (fun h => by
      rcases Nat.eq_zero_or_pos m with h0 | h0
      · exact h0
      · obtain ⟨b0, off, he, _⟩ := hE.at_ 0 (by omega)
        rw [h] at he; cases he) (fun u hu => by simp only [bools, List.mem_map] at hu; obtain ⟨x, _, rfl⟩ := hu; rfl) (by unfold maxLen; omega) (by omega)
  exact step_append hw s x 24 24 ho _ W (fun ty => by rw [hs, hx]; exact hr ty) (h W g cap sp hgr hb hg)
end
theorem up_grown {B : Nat} {a w w' : World} {g : Nat} (h : Below B a w) (hg : w.grownBy w' (some g)) (hB : B ≤ g) (hs : B ≤ w.heap.size) : Below B a w' :=
  h.grown hg hs (fun k hk => by injection hk with hk; omega)
theorem wld_one (fa : Option Addr) (fn fc : Nat) (pa : Option Addr) (pn pc : Nat) (ht : Int) : (#[.slice fa fn fc, .slice pa pn pc, .int .u64 ht] : Array Value).all (·.oneCell') = true := by simp [Value.oneCell']

set_option maxRecDepth 100000 in
set_option maxHeartbeats 4000000 in
theorem to_any (fa : Option Addr) (fn fc : Nat) (pa : Option Addr) (pn pc : Nat) (ht : Int) (fs : List Int) (ps : List Bool) (w : World) (HF : Hid (FRow w fa fn fs)) (HP : Hid (BRow w pa pn ps)) (hf : fn ≤ 300) (hp : pn ≤ 300) :
    Calls Tryd.prog 12 #[wldV fa fn fc pa pn pc ht] w fun e w' => ∃ fa' fc' pa' pc', e = .returned (wldV fa' fn fc' pa' pn pc' ht) ∧ FRow w' fa' fn fs ∧ BRow w' pa' pn ps ∧ Below w.heap.size w w' := by
  unfold wldV
  have HFW := Lib.hid HF.out.word
  have HFL := Lib.hid HF.out.len
  have HPL := Lib.hid HP.out.len
  have HHF := Lib.hid hf
  have HHP := Lib.hid hp
  clear hf hp
  go_enter Tryd.func12, Tryd.ntmps12
  go_upto_region 1 with fail
  have hB : Below w.heap.size w ((w.alloc (.cells #[.slice fa fn fc, .slice pa pn pc, .int .u64 ht] 27)).alloc (.cells #[.slice none 0 0, .slice none 0 0, .int .u64 0] 33)) := up2 _ _
  have QV : Hid (Blk ((w.alloc (.cells #[.slice fa fn fc, .slice pa pn pc, .int .u64 ht] 27)).alloc (.cells #[.slice none 0 0, .slice none 0 0, .int .u64 0] 33)) w.heap.size 27 [.slice fa fn fc, .slice pa pn pc, .int .u64 ht]) := Lib.hid ((Blk.new w 27 [.slice fa fn fc, .slice pa pn pc, .int .u64 ht]).alloc _)
  have RV0 := Blk.new (w.alloc (.cells #[.slice fa fn fc, .slice pa pn pc, .int .u64 ht] 27)) 33 [.slice none 0 0, .slice none 0 0, .int .u64 0]
  rw [World.size_alloc] at RV0
  have RV := Lib.hid RV0
  have BV := Lib.hid hB
  clear hB RV0
  generalize ((w.alloc (.cells #[.slice fa fn fc, .slice pa pn pc, .int .u64 ht] 27)).alloc (.cells #[.slice none 0 0, .slice none 0 0, .int .u64 0] 33)) = V at QV RV BV ⊢
  obtain ⟨gr, hgr⟩ : ∃ x, w.heap.size + 1 = x := ⟨_, rfl⟩
  rw [hgr] at RV ⊢
  have HGR : Hid (w.heap.size ≤ gr) := Lib.hid (by omega)
  obtain ⟨gp, hgp⟩ : ∃ x, w.heap.size = x := ⟨_, rfl⟩
  have hgp0 : w.heap.size ≤ gp := by omega
  have HGP := Lib.hid hgp0
  rw [show Blk V w.heap.size 27 [.slice fa fn fc, .slice pa pn pc, .int .u64 ht] = Blk V gp 27 [.slice fa fn fc, .slice pa pn pc, .int .u64 ht] by rw [hgp]] at QV
  conv =>
    pattern (occs := *) Addr.mk w.heap.size _ _
    all_goals rw [hgp]
  clear hgr hgp hgp0
  have hBz : Below V.heap.size V V.drew := below_drewN (Below.refl _ _) 1
  have BX0 : Hid (Below w.heap.size w V.drew) := Lib.hid (BV.out.trans (hBz.mono BV.out.size))
  have QX0 : Hid (Blk V.drew gp 27 [.slice fa fn fc, .slice pa pn pc, .int .u64 ht]) := Lib.hid (QV.out.below hBz QV.out.lt)
  have RX0 : Hid (Blk V.drew gr 33 [.slice none 0 0, .slice none 0 0, .int .u64 0]) := Lib.hid (RV.out.below hBz RV.out.lt)
  clear hBz
  refine wp_region_held_drew (S := fun w' => Blk w' gp 27 [.slice fa fn fc, .slice pa pn pc, .int .u64 ht]) (by kernel_rfl) (QX0.out) (fun hHeld => ?_)
  generalize V.drew = X0 at hHeld BX0 QX0 RX0 ⊢
  refine wpAnyH_take (i := 1) (v := .pointer (some ⟨gp, 0, none⟩)) rfl (by kernel_rfl) (by kernel_rfl) (by kernel_rfl) (fun _ _ _ h => h) (Or.inl ⟨by rfl, by intro w' h; go_simp⟩) hHeld ?_
  show wpAnyH _ _ _ _ _ _ _ (Act.put _ (some 4) _) _
  simp only [Act.put, List.setIfInBounds_toArray, List.set_cons_zero, List.set_cons_succ]
  refine wpAnyH_take (i := 2) (v := .slice fa fn fc) rfl (by kernel_rfl) (by kernel_rfl) (by kernel_rfl) (fun _ _ _ h => h) (Or.inl ⟨by rfl, by intro w' h; have k0 := Blk.cell h 0; simp only [List.getElem?_cons_zero] at k0; go_simp⟩) hHeld ?_
  show wpAnyH _ _ _ _ _ _ _ (Act.put _ (some 5) _) _
  simp only [Act.put, List.setIfInBounds_toArray, List.set_cons_zero, List.set_cons_succ]
  refine wpAnyH_take (i := 5) (v := .pointer (some ⟨gp, 1, none⟩)) rfl (by kernel_rfl) (by kernel_rfl) (by kernel_rfl) (fun _ _ _ h => h) (Or.inl ⟨by rfl, by intro w' h; go_simp⟩) hHeld ?_
  show wpAnyH _ _ _ _ _ _ _ (Act.put _ (some 8) _) _
  simp only [Act.put, List.setIfInBounds_toArray, List.set_cons_zero, List.set_cons_succ]
  refine wpAnyH_take (i := 6) (v := .slice pa pn pc) rfl (by kernel_rfl) (by kernel_rfl) (by kernel_rfl) (fun _ _ _ h => h) (Or.inl ⟨by rfl, by intro w' h; have k1 := Blk.cell h 1; simp only [List.getElem?_cons_zero, List.getElem?_cons_succ] at k1; go_simp⟩) hHeld ?_
  show wpAnyH _ _ _ _ _ _ _ (Act.put _ (some 9) _) _
  simp only [Act.put, List.setIfInBounds_toArray, List.set_cons_zero, List.set_cons_succ]
  refine wpAnyH_take (i := 8) (v := .pointer (some ⟨gp, 2, none⟩)) rfl (by kernel_rfl) (by kernel_rfl) (by kernel_rfl) (fun _ _ _ h => h) (Or.inl ⟨by rfl, by intro w' h; go_simp⟩) hHeld ?_
  show wpAnyH _ _ _ _ _ _ _ (Act.put _ (some 11) _) _
  simp only [Act.put, List.setIfInBounds_toArray, List.set_cons_zero, List.set_cons_succ]
  refine wpAnyH_take (i := 9) (v := .int .u64 ht) rfl (by kernel_rfl) (by kernel_rfl) (by kernel_rfl) (fun _ _ _ h => h) (Or.inl ⟨by rfl, by intro w' h; have k2 := Blk.cell h 2; simp only [List.getElem?_cons_zero, List.getElem?_cons_succ] at k2; go_simp⟩) hHeld ?_
  show wpAnyH _ _ _ _ _ _ _ (Act.put _ (some 12) _) _
  simp only [Act.put, List.setIfInBounds_toArray, List.set_cons_zero, List.set_cons_succ]
  refine wpAnyH_ready (rs := [0, 4]) (by kernel_rfl) (by simp) ?_
  refine AllReadyH.cons rfl (fun K hK => ?_) (AllReadyH.cons rfl (fun K hK => ?_) AllReadyH.nil)
  · refine step_lay23 rfl rfl ?_
    intro X1 gd hB hD hgX
    have hgD : w.heap.size ≤ gd := Nat.le_trans BX0.out.size hgX
    have BX1 : Hid (Below w.heap.size w X1) := Lib.hid (BX0.out.trans (hB.mono BX0.out.size))
    have QX1 : Hid (Blk X1 gp 27 [.slice fa fn fc, .slice pa pn pc, .int .u64 ht]) := Lib.hid (QX0.out.below hB QX0.out.lt)
    have RX1 : Hid (Blk X1 gr 33 [.slice none 0 0, .slice none 0 0, .int .u64 0]) := Lib.hid (RX0.out.below hB RX0.out.lt)
    have DX1 : Hid (Blk X1 gd 25 []) := Lib.hid (hD)
    clear BX0 QX0 RX0 hB hD hgX
    refine hK.out _ _ (QX1.out) (fun hHeld => ?_)
    clear hK K
    show wpAnyH _ _ _ _ _ _ _ (Act.put _ (some 3) _) _
    simp only [Act.put, List.setIfInBounds_toArray, List.set_cons_zero, List.set_cons_succ]
    refine wpAnyH_ready (rs := [3, 4]) (by kernel_rfl) (by simp) ?_
    refine AllReadyH.cons rfl (fun K hK => ?_) (AllReadyH.cons rfl (fun K hK => ?_) AllReadyH.nil)
    · refine step_app23 rfl (.tmp 3) (.tmp 5) rfl gd rfl DX1.out _ fn _ rfl fs (HF.out.below (B := 0) BX1.out) (HHF.out) ?_
      intro X2 gg capgg spgg hO hG hat
      have hgO := hgD
      have hQO : some gp ≠ some gd := fun e => QX1.out.ne_ DX1.out (by decide) (by injection e)
      have hRO : some gr ≠ some gd := fun e => RX1.out.ne_ DX1.out (by decide) (by injection e)
      have hgG : w.heap.size ≤ gg := by have := BX1.out.size; omega
      have BX2 : Hid (Below w.heap.size w X2) := Lib.hid (up_grown BX1.out hO hgO BX1.out.size)
      have QX2 : Hid (Blk X2 gp 27 [.slice fa fn fc, .slice pa pn pc, .int .u64 ht]) := Lib.hid (QX1.out.grown hO hQO)
      have RX2 : Hid (Blk X2 gr 33 [.slice none 0 0, .slice none 0 0, .int .u64 0]) := Lib.hid (RX1.out.grown hO hRO)
      have GX2 : Hid (Blk X2 gg 25 (u64s fs ++ spgg)) := Lib.hid (hG)
      clear BX1 QX1 RX1 hO hG hat
      refine hK.out _ _ (QX2.out) (fun hHeld => ?_)
      clear hK K
      show wpAnyH _ _ _ _ _ _ _ (Act.put _ (some 6) _) _
      simp only [Act.put, List.setIfInBounds_toArray, List.set_cons_zero, List.set_cons_succ]
      refine wpAnyH_ready (rs := [4]) (by kernel_rfl) (by simp) ?_
      refine AllReadyH.cons rfl (fun K hK => ?_) AllReadyH.nil
      refine step_lay24 rfl rfl ?_
      intro X3 ge hB hE hgX
      have hgE : w.heap.size ≤ ge := Nat.le_trans BX2.out.size hgX
      have BX3 : Hid (Below w.heap.size w X3) := Lib.hid (BX2.out.trans (hB.mono BX2.out.size))
      have QX3 : Hid (Blk X3 gp 27 [.slice fa fn fc, .slice pa pn pc, .int .u64 ht]) := Lib.hid (QX2.out.below hB QX2.out.lt)
      have RX3 : Hid (Blk X3 gr 33 [.slice none 0 0, .slice none 0 0, .int .u64 0]) := Lib.hid (RX2.out.below hB RX2.out.lt)
      have GX3 : Hid (Blk X3 gg 25 (u64s fs ++ spgg)) := Lib.hid (GX2.out.below hB GX2.out.lt)
      have EX3 : Hid (Blk X3 ge 4 []) := Lib.hid (hE)
      clear BX2 QX2 RX2 GX2 hB hE hgX
      refine hK.out _ _ (QX3.out) (fun hHeld => ?_)
      clear hK K
      show wpAnyH _ _ _ _ _ _ _ (Act.put _ (some 7) _) _
      simp only [Act.put, List.setIfInBounds_toArray, List.set_cons_zero, List.set_cons_succ]
      refine wpAnyH_ready (rs := [7]) (by kernel_rfl) (by simp) ?_
      refine AllReadyH.cons rfl (fun K hK => ?_) AllReadyH.nil
      refine step_app24 rfl (.tmp 7) (.tmp 9) rfl ge rfl EX3.out _ pn _ rfl ps (HP.out.below BX3.out) (HHP.out) ?_
      intro X4 gh capgh spgh hO hH hat
      have hgO := hgE
      have hQO : some gp ≠ some ge := fun e => QX3.out.ne_ EX3.out (by decide) (by injection e)
      have hRO : some gr ≠ some ge := fun e => RX3.out.ne_ EX3.out (by decide) (by injection e)
      have hGO : some gg ≠ some ge := fun e => GX3.out.ne_ EX3.out (by decide) (by injection e)
      have hgH : w.heap.size ≤ gh := by have := BX3.out.size; omega
      have BX4 : Hid (Below w.heap.size w X4) := Lib.hid (up_grown BX3.out hO hgO BX3.out.size)
      have QX4 : Hid (Blk X4 gp 27 [.slice fa fn fc, .slice pa pn pc, .int .u64 ht]) := Lib.hid (QX3.out.grown hO hQO)
      have RX4 : Hid (Blk X4 gr 33 [.slice none 0 0, .slice none 0 0, .int .u64 0]) := Lib.hid (RX3.out.grown hO hRO)
      have GX4 : Hid (Blk X4 gg 25 (u64s fs ++ spgg)) := Lib.hid (GX3.out.grown hO hGO)
      have HX4 : Hid (Blk X4 gh 4 (bools ps ++ spgh)) := Lib.hid (hH)
      clear BX3 QX3 RX3 GX3 hO hH hat
      refine hK.out _ _ (QX4.out) (fun hHeld => ?_)
      clear hK K
      show wpAnyH _ _ _ _ _ _ _ (Act.put _ (some 10) _) _
      simp only [Act.put, List.setIfInBounds_toArray, List.set_cons_zero, List.set_cons_succ]
      refine wpAnyH_take (i := 10) (v := .agg #[.slice (some ⟨gg, 0, none⟩) fn capgg, .slice (some ⟨gh, 0, none⟩) pn capgh, .int .u64 ht]) rfl (by kernel_rfl) (by kernel_rfl) (by kernel_rfl) (fun _ _ _ h => h) (Or.inl ⟨by rfl, by intro w' h; kernel_rfl⟩) hHeld ?_
      show wpAnyH _ _ _ _ _ _ _ (Act.put _ (some 13) _) _
      simp only [Act.put, List.setIfInBounds_toArray, List.set_cons_zero, List.set_cons_succ]
      refine wpAnyH_ready (rs := [11]) (by kernel_rfl) (by simp) ?_
      refine AllReadyH.cons rfl (fun K hK => ?_) AllReadyH.nil
      refine step_store rfl 33 (.tmp 2) (.tmp 13) rfl gr [.slice (some ⟨gg, 0, none⟩) fn capgg, .slice (some ⟨gh, 0, none⟩) pn capgh, .int .u64 ht] rfl rfl 33 _ RX4.out info33 rfl (wld_one _ _ _ _ _ _ _) ?_
      intro X5 hR hO
      have hgO := HGR.out
      have hQO : some gp ≠ some gr := fun e => QX4.out.ne_ RX4.out (by decide) (by injection e)
      have hGO : some gg ≠ some gr := fun e => GX4.out.ne_ RX4.out (by decide) (by injection e)
      have hHO : some gh ≠ some gr := fun e => HX4.out.ne_ RX4.out (by decide) (by injection e)
      have BX5 : Hid (Below w.heap.size w X5) := Lib.hid (up_grown BX4.out hO hgO BX4.out.size)
      have QX5 : Hid (Blk X5 gp 27 [.slice fa fn fc, .slice pa pn pc, .int .u64 ht]) := Lib.hid (QX4.out.grown hO hQO)
      have GX5 : Hid (Blk X5 gg 25 (u64s fs ++ spgg)) := Lib.hid (GX4.out.grown hO hGO)
      have HX5 : Hid (Blk X5 gh 4 (bools ps ++ spgh)) := Lib.hid (HX4.out.grown hO hHO)
      have RX5 : Hid (Blk X5 gr 33 [.slice (some ⟨gg, 0, none⟩) fn capgg, .slice (some ⟨gh, 0, none⟩) pn capgh, .int .u64 ht]) := Lib.hid (hR)
      clear BX4 QX4 GX4 HX4 hR hO
      refine hK.out _ _ (QX5.out) (fun hHeld => ?_)
      clear hK K
      show wpAnyH _ _ _ _ _ _ _ (Act.put _ none _) _
      simp only [Act.put]
      refine wpAnyH_done (by kernel_rfl) ?_ _
      clear hHeld
      go_wp2
      exact bodyPost_ret (results_cell_row Tryd.results12 _ _ gr 33 #[.slice (some ⟨gg, 0, none⟩) fn capgg, .slice (some ⟨gh, 0, none⟩) pn capgh, .int .u64 ht] (0, 0) _ rfl RX5.out Tryd.underlying33 rfl info33) rfl ⟨_, _, _, _, rfl, FRow.of GX5.out HFL.out HFW.out, BRow.of HX5.out HPL.out, BX5.out⟩
    · refine step_lay24 rfl rfl ?_
      intro X2 ge hB hE hgX
      have hgE : w.heap.size ≤ ge := Nat.le_trans BX1.out.size hgX
      have BX2 : Hid (Below w.heap.size w X2) := Lib.hid (BX1.out.trans (hB.mono BX1.out.size))
      have QX2 : Hid (Blk X2 gp 27 [.slice fa fn fc, .slice pa pn pc, .int .u64 ht]) := Lib.hid (QX1.out.below hB QX1.out.lt)
      have RX2 : Hid (Blk X2 gr 33 [.slice none 0 0, .slice none 0 0, .int .u64 0]) := Lib.hid (RX1.out.below hB RX1.out.lt)
      have DX2 : Hid (Blk X2 gd 25 []) := Lib.hid (DX1.out.below hB DX1.out.lt)
      have EX2 : Hid (Blk X2 ge 4 []) := Lib.hid (hE)
      clear BX1 QX1 RX1 DX1 hB hE hgX
      refine hK.out _ _ (QX2.out) (fun hHeld => ?_)
      clear hK K
      show wpAnyH _ _ _ _ _ _ _ (Act.put _ (some 7) _) _
      simp only [Act.put, List.setIfInBounds_toArray, List.set_cons_zero, List.set_cons_succ]
      refine wpAnyH_ready (rs := [3]) (by kernel_rfl) (by simp) ?_
      refine AllReadyH.cons rfl (fun K hK => ?_) AllReadyH.nil
      refine step_app23 rfl (.tmp 3) (.tmp 5) rfl gd rfl DX2.out _ fn _ rfl fs (HF.out.below (B := 0) BX2.out) (HHF.out) ?_
      intro X3 gg capgg spgg hO hG hat
      have hgO := hgD
      have hQO : some gp ≠ some gd := fun e => QX2.out.ne_ DX2.out (by decide) (by injection e)
      have hRO : some gr ≠ some gd := fun e => RX2.out.ne_ DX2.out (by decide) (by injection e)
      have hEO : some ge ≠ some gd := fun e => EX2.out.ne_ DX2.out (by decide) (by injection e)
      have hgG : w.heap.size ≤ gg := by have := BX2.out.size; omega
      have BX3 : Hid (Below w.heap.size w X3) := Lib.hid (up_grown BX2.out hO hgO BX2.out.size)
      have QX3 : Hid (Blk X3 gp 27 [.slice fa fn fc, .slice pa pn pc, .int .u64 ht]) := Lib.hid (QX2.out.grown hO hQO)
      have RX3 : Hid (Blk X3 gr 33 [.slice none 0 0, .slice none 0 0, .int .u64 0]) := Lib.hid (RX2.out.grown hO hRO)
      have EX3 : Hid (Blk X3 ge 4 []) := Lib.hid (EX2.out.grown hO hEO)
      have GX3 : Hid (Blk X3 gg 25 (u64s fs ++ spgg)) := Lib.hid (hG)
      clear BX2 QX2 RX2 EX2 hO hG hat
      refine hK.out _ _ (QX3.out) (fun hHeld => ?_)
      clear hK K
      show wpAnyH _ _ _ _ _ _ _ (Act.put _ (some 6) _) _
      simp only [Act.put, List.setIfInBounds_toArray, List.set_cons_zero, List.set_cons_succ]
      refine wpAnyH_ready (rs := [7]) (by kernel_rfl) (by simp) ?_
      refine AllReadyH.cons rfl (fun K hK => ?_) AllReadyH.nil
      refine step_app24 rfl (.tmp 7) (.tmp 9) rfl ge rfl EX3.out _ pn _ rfl ps (HP.out.below BX3.out) (HHP.out) ?_
      intro X4 gh capgh spgh hO hH hat
      have hgO := hgE
      have hQO : some gp ≠ some ge := fun e => QX3.out.ne_ EX3.out (by decide) (by injection e)
      have hRO : some gr ≠ some ge := fun e => RX3.out.ne_ EX3.out (by decide) (by injection e)
      have hGO : some gg ≠ some ge := fun e => GX3.out.ne_ EX3.out (by decide) (by injection e)
      have hgH : w.heap.size ≤ gh := by have := BX3.out.size; omega
      have BX4 : Hid (Below w.heap.size w X4) := Lib.hid (up_grown BX3.out hO hgO BX3.out.size)
      have QX4 : Hid (Blk X4 gp 27 [.slice fa fn fc, .slice pa pn pc, .int .u64 ht]) := Lib.hid (QX3.out.grown hO hQO)
      have RX4 : Hid (Blk X4 gr 33 [.slice none 0 0, .slice none 0 0, .int .u64 0]) := Lib.hid (RX3.out.grown hO hRO)
      have GX4 : Hid (Blk X4 gg 25 (u64s fs ++ spgg)) := Lib.hid (GX3.out.grown hO hGO)
      have HX4 : Hid (Blk X4 gh 4 (bools ps ++ spgh)) := Lib.hid (hH)
      clear BX3 QX3 RX3 GX3 hO hH hat
      refine hK.out _ _ (QX4.out) (fun hHeld => ?_)
      clear hK K
      show wpAnyH _ _ _ _ _ _ _ (Act.put _ (some 10) _) _
      simp only [Act.put, List.setIfInBounds_toArray, List.set_cons_zero, List.set_cons_succ]
      refine wpAnyH_take (i := 10) (v := .agg #[.slice (some ⟨gg, 0, none⟩) fn capgg, .slice (some ⟨gh, 0, none⟩) pn capgh, .int .u64 ht]) rfl (by kernel_rfl) (by kernel_rfl) (by kernel_rfl) (fun _ _ _ h => h) (Or.inl ⟨by rfl, by intro w' h; kernel_rfl⟩) hHeld ?_
      show wpAnyH _ _ _ _ _ _ _ (Act.put _ (some 13) _) _
      simp only [Act.put, List.setIfInBounds_toArray, List.set_cons_zero, List.set_cons_succ]
      refine wpAnyH_ready (rs := [11]) (by kernel_rfl) (by simp) ?_
      refine AllReadyH.cons rfl (fun K hK => ?_) AllReadyH.nil
      refine step_store rfl 33 (.tmp 2) (.tmp 13) rfl gr [.slice (some ⟨gg, 0, none⟩) fn capgg, .slice (some ⟨gh, 0, none⟩) pn capgh, .int .u64 ht] rfl rfl 33 _ RX4.out info33 rfl (wld_one _ _ _ _ _ _ _) ?_
      intro X5 hR hO
      have hgO := HGR.out
      have hQO : some gp ≠ some gr := fun e => QX4.out.ne_ RX4.out (by decide) (by injection e)
      have hGO : some gg ≠ some gr := fun e => GX4.out.ne_ RX4.out (by decide) (by injection e)
      have hHO : some gh ≠ some gr := fun e => HX4.out.ne_ RX4.out (by decide) (by injection e)
      have BX5 : Hid (Below w.heap.size w X5) := Lib.hid (up_grown BX4.out hO hgO BX4.out.size)
      have QX5 : Hid (Blk X5 gp 27 [.slice fa fn fc, .slice pa pn pc, .int .u64 ht]) := Lib.hid (QX4.out.grown hO hQO)
      have GX5 : Hid (Blk X5 gg 25 (u64s fs ++ spgg)) := Lib.hid (GX4.out.grown hO hGO)
      have HX5 : Hid (Blk X5 gh 4 (bools ps ++ spgh)) := Lib.hid (HX4.out.grown hO hHO)
      have RX5 : Hid (Blk X5 gr 33 [.slice (some ⟨gg, 0, none⟩) fn capgg, .slice (some ⟨gh, 0, none⟩) pn capgh, .int .u64 ht]) := Lib.hid (hR)
      clear BX4 QX4 GX4 HX4 hR hO
      refine hK.out _ _ (QX5.out) (fun hHeld => ?_)
      clear hK K
      show wpAnyH _ _ _ _ _ _ _ (Act.put _ none _) _
      simp only [Act.put]
      refine wpAnyH_done (by kernel_rfl) ?_ _
      clear hHeld
      go_wp2
      exact bodyPost_ret (results_cell_row Tryd.results12 _ _ gr 33 #[.slice (some ⟨gg, 0, none⟩) fn capgg, .slice (some ⟨gh, 0, none⟩) pn capgh, .int .u64 ht] (0, 0) _ rfl RX5.out Tryd.underlying33 rfl info33) rfl ⟨_, _, _, _, rfl, FRow.of GX5.out HFL.out HFW.out, BRow.of HX5.out HPL.out, BX5.out⟩
  · refine step_lay24 rfl rfl ?_
    intro X1 ge hB hE hgX
    have hgE : w.heap.size ≤ ge := Nat.le_trans BX0.out.size hgX
    have BX1 : Hid (Below w.heap.size w X1) := Lib.hid (BX0.out.trans (hB.mono BX0.out.size))
    have QX1 : Hid (Blk X1 gp 27 [.slice fa fn fc, .slice pa pn pc, .int .u64 ht]) := Lib.hid (QX0.out.below hB QX0.out.lt)
    have RX1 : Hid (Blk X1 gr 33 [.slice none 0 0, .slice none 0 0, .int .u64 0]) := Lib.hid (RX0.out.below hB RX0.out.lt)
    have EX1 : Hid (Blk X1 ge 4 []) := Lib.hid (hE)
    clear BX0 QX0 RX0 hB hE hgX
    refine hK.out _ _ (QX1.out) (fun hHeld => ?_)
    clear hK K
    show wpAnyH _ _ _ _ _ _ _ (Act.put _ (some 7) _) _
    simp only [Act.put, List.setIfInBounds_toArray, List.set_cons_zero, List.set_cons_succ]
    refine wpAnyH_ready (rs := [0]) (by kernel_rfl) (by simp) ?_
    refine AllReadyH.cons rfl (fun K hK => ?_) AllReadyH.nil
    refine step_lay23 rfl rfl ?_
    intro X2 gd hB hD hgX
    have hgD : w.heap.size ≤ gd := Nat.le_trans BX1.out.size hgX
    have BX2 : Hid (Below w.heap.size w X2) := Lib.hid (BX1.out.trans (hB.mono BX1.out.size))
    have QX2 : Hid (Blk X2 gp 27 [.slice fa fn fc, .slice pa pn pc, .int .u64 ht]) := Lib.hid (QX1.out.below hB QX1.out.lt)
    have RX2 : Hid (Blk X2 gr 33 [.slice none 0 0, .slice none 0 0, .int .u64 0]) := Lib.hid (RX1.out.below hB RX1.out.lt)
    have EX2 : Hid (Blk X2 ge 4 []) := Lib.hid (EX1.out.below hB EX1.out.lt)
    have DX2 : Hid (Blk X2 gd 25 []) := Lib.hid (hD)
    clear BX1 QX1 RX1 EX1 hB hD hgX
    refine hK.out _ _ (QX2.out) (fun hHeld => ?_)
    clear hK K
    show wpAnyH _ _ _ _ _ _ _ (Act.put _ (some 3) _) _
    simp only [Act.put, List.setIfInBounds_toArray, List.set_cons_zero, List.set_cons_succ]
    refine wpAnyH_ready (rs := [3]) (by kernel_rfl) (by simp) ?_
    refine AllReadyH.cons rfl (fun K hK => ?_) AllReadyH.nil
    refine step_app23 rfl (.tmp 3) (.tmp 5) rfl gd rfl DX2.out _ fn _ rfl fs (HF.out.below (B := 0) BX2.out) (HHF.out) ?_
    intro X3 gg capgg spgg hO hG hat
    have hgO := hgD
    have hQO : some gp ≠ some gd := fun e => QX2.out.ne_ DX2.out (by decide) (by injection e)
    have hRO : some gr ≠ some gd := fun e => RX2.out.ne_ DX2.out (by decide) (by injection e)
    have hEO : some ge ≠ some gd := fun e => EX2.out.ne_ DX2.out (by decide) (by injection e)
    have hgG : w.heap.size ≤ gg := by have := BX2.out.size; omega
    have BX3 : Hid (Below w.heap.size w X3) := Lib.hid (up_grown BX2.out hO hgO BX2.out.size)
    have QX3 : Hid (Blk X3 gp 27 [.slice fa fn fc, .slice pa pn pc, .int .u64 ht]) := Lib.hid (QX2.out.grown hO hQO)
    have RX3 : Hid (Blk X3 gr 33 [.slice none 0 0, .slice none 0 0, .int .u64 0]) := Lib.hid (RX2.out.grown hO hRO)
    have EX3 : Hid (Blk X3 ge 4 []) := Lib.hid (EX2.out.grown hO hEO)
    have GX3 : Hid (Blk X3 gg 25 (u64s fs ++ spgg)) := Lib.hid (hG)
    clear BX2 QX2 RX2 EX2 hO hG hat
    refine hK.out _ _ (QX3.out) (fun hHeld => ?_)
    clear hK K
    show wpAnyH _ _ _ _ _ _ _ (Act.put _ (some 6) _) _
    simp only [Act.put, List.setIfInBounds_toArray, List.set_cons_zero, List.set_cons_succ]
    refine wpAnyH_ready (rs := [7]) (by kernel_rfl) (by simp) ?_
    refine AllReadyH.cons rfl (fun K hK => ?_) AllReadyH.nil
    refine step_app24 rfl (.tmp 7) (.tmp 9) rfl ge rfl EX3.out _ pn _ rfl ps (HP.out.below BX3.out) (HHP.out) ?_
    intro X4 gh capgh spgh hO hH hat
    have hgO := hgE
    have hQO : some gp ≠ some ge := fun e => QX3.out.ne_ EX3.out (by decide) (by injection e)
    have hRO : some gr ≠ some ge := fun e => RX3.out.ne_ EX3.out (by decide) (by injection e)
    have hGO : some gg ≠ some ge := fun e => GX3.out.ne_ EX3.out (by decide) (by injection e)
    have hgH : w.heap.size ≤ gh := by have := BX3.out.size; omega
    have BX4 : Hid (Below w.heap.size w X4) := Lib.hid (up_grown BX3.out hO hgO BX3.out.size)
    have QX4 : Hid (Blk X4 gp 27 [.slice fa fn fc, .slice pa pn pc, .int .u64 ht]) := Lib.hid (QX3.out.grown hO hQO)
    have RX4 : Hid (Blk X4 gr 33 [.slice none 0 0, .slice none 0 0, .int .u64 0]) := Lib.hid (RX3.out.grown hO hRO)
    have GX4 : Hid (Blk X4 gg 25 (u64s fs ++ spgg)) := Lib.hid (GX3.out.grown hO hGO)
    have HX4 : Hid (Blk X4 gh 4 (bools ps ++ spgh)) := Lib.hid (hH)
    clear BX3 QX3 RX3 GX3 hO hH hat
    refine hK.out _ _ (QX4.out) (fun hHeld => ?_)
    clear hK K
    show wpAnyH _ _ _ _ _ _ _ (Act.put _ (some 10) _) _
    simp only [Act.put, List.setIfInBounds_toArray, List.set_cons_zero, List.set_cons_succ]
    refine wpAnyH_take (i := 10) (v := .agg #[.slice (some ⟨gg, 0, none⟩) fn capgg, .slice (some ⟨gh, 0, none⟩) pn capgh, .int .u64 ht]) rfl (by kernel_rfl) (by kernel_rfl) (by kernel_rfl) (fun _ _ _ h => h) (Or.inl ⟨by rfl, by intro w' h; kernel_rfl⟩) hHeld ?_
    show wpAnyH _ _ _ _ _ _ _ (Act.put _ (some 13) _) _
    simp only [Act.put, List.setIfInBounds_toArray, List.set_cons_zero, List.set_cons_succ]
    refine wpAnyH_ready (rs := [11]) (by kernel_rfl) (by simp) ?_
    refine AllReadyH.cons rfl (fun K hK => ?_) AllReadyH.nil
    refine step_store rfl 33 (.tmp 2) (.tmp 13) rfl gr [.slice (some ⟨gg, 0, none⟩) fn capgg, .slice (some ⟨gh, 0, none⟩) pn capgh, .int .u64 ht] rfl rfl 33 _ RX4.out info33 rfl (wld_one _ _ _ _ _ _ _) ?_
    intro X5 hR hO
    have hgO := HGR.out
    have hQO : some gp ≠ some gr := fun e => QX4.out.ne_ RX4.out (by decide) (by injection e)
    have hGO : some gg ≠ some gr := fun e => GX4.out.ne_ RX4.out (by decide) (by injection e)
    have hHO : some gh ≠ some gr := fun e => HX4.out.ne_ RX4.out (by decide) (by injection e)
    have BX5 : Hid (Below w.heap.size w X5) := Lib.hid (up_grown BX4.out hO hgO BX4.out.size)
    have QX5 : Hid (Blk X5 gp 27 [.slice fa fn fc, .slice pa pn pc, .int .u64 ht]) := Lib.hid (QX4.out.grown hO hQO)
    have GX5 : Hid (Blk X5 gg 25 (u64s fs ++ spgg)) := Lib.hid (GX4.out.grown hO hGO)
    have HX5 : Hid (Blk X5 gh 4 (bools ps ++ spgh)) := Lib.hid (HX4.out.grown hO hHO)
    have RX5 : Hid (Blk X5 gr 33 [.slice (some ⟨gg, 0, none⟩) fn capgg, .slice (some ⟨gh, 0, none⟩) pn capgh, .int .u64 ht]) := Lib.hid (hR)
    clear BX4 QX4 GX4 HX4 hR hO
    refine hK.out _ _ (QX5.out) (fun hHeld => ?_)
    clear hK K
    show wpAnyH _ _ _ _ _ _ _ (Act.put _ none _) _
    simp only [Act.put]
    refine wpAnyH_done (by kernel_rfl) ?_ _
    clear hHeld
    go_wp2
    exact bodyPost_ret (results_cell_row Tryd.results12 _ _ gr 33 #[.slice (some ⟨gg, 0, none⟩) fn capgg, .slice (some ⟨gh, 0, none⟩) pn capgh, .int .u64 ht] (0, 0) _ rfl RX5.out Tryd.underlying33 rfl info33) rfl ⟨_, _, _, _, rfl, FRow.of GX5.out HFL.out HFW.out, BRow.of HX5.out HPL.out, BX5.out⟩
end Go.Proofs.YtkilajobnlagbaaDoor
