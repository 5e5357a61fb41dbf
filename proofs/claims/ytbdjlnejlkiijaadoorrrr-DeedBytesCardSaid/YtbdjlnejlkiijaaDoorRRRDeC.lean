/-
  deed.LayOp (10), the beginning of deed.Lay (7).
-/
import Derived.Test.YtbdjlnejlkiijaaDoorRRRDeB
namespace Go.Proofs.YtbdjlnejlkiijaaDoorRRR
open Go.RowKit
set_option linter.unusedVariables false
set_option linter.unusedSimpArgs false

theorem Oct.own_fresh {X : World} {base : Nat} (hb : base ≤ X.heap.size) : Oct.Own (X.alloc (.cells #[] 5)) base (.slice (some ⟨X.heap.size, 0, none⟩) 0 0) [] :=
  ⟨rfl, .inr ⟨X.heap.size, 0, #[], rfl, hb, heap_alloc_last X _, Nat.le_refl _, by unfold maxLen; omega, rfl, rfl⟩⟩
theorem be4_len4 (x : Int) : (Oct.be4 x).length = 4 := by simp [Oct.be4]
/-- A payment's numbers are words. -/
def CndW (c : Cnd) : Prop := (0 ≤ c.id ∧ c.id ≤ 18446744073709551615) ∧ (0 ≤ c.amt ∧ c.amt ≤ 18446744073709551615) ∧ (0 ≤ c.ex ∧ c.ex ≤ 18446744073709551615)
theorem rd_at (k : IntKind) {X : World} {g : Nat} {t : TypeId} {cs : List Value} {xs : List Int} (h : Blk X g t cs) (o : Nat) (hc : ∀ i, i < xs.length → cs[o + i]? = some (.int k (xs.getD i 0))) : Oct.Rd k X (some ⟨g, o, none⟩) xs := by
  refine .inr ⟨g, o, rfl, h.lt, fun i hi => ?_⟩
  rw [h.cell]
  exact hc i hi
theorem slice24 (g o : Nat) (W : World) : (Instr.sliceAt 24 (.pointer (some ⟨g, o, none⟩)) none none none).run Tryd.prog W = .ok (.slice (some ⟨g, o, none⟩) 2 2) W := by
  have h := run_sliceAt_array_all (P := Tryd.prog) W 24 ⟨g, o, none⟩ (by kernel_rfl)
  rw [h, show Tryd.prog.arrayLen 24 = 2 by kernel_rfl, show Tryd.prog.elem 24 = 23 by kernel_rfl]
  obtain ⟨i0, hi, hz1⟩ := Option.map_eq_some_iff.1 (show (Tryd.prog.info? 23).map (·.size) = some 1 by kernel_rfl)
  simp [sizeOf, typeInfo, hi, slicedAt, Addr.add_mid]
/-- What a side wants, as cells. -/
def opC (kd amt : Int) (c : Cnd) (id : Int) : List Value := [.int .i64 kd, .int .u64 amt] ++ c.cells ++ [.int .u64 id]
theorem opC0 {kd amt id : Int} {c : Cnd} : (opC kd amt c id)[0]? = some (.int .i64 kd) := rfl
theorem opC1 {kd amt id : Int} {c : Cnd} : (opC kd amt c id)[1]? = some (.int .u64 amt) := rfl
theorem opC38 (kd amt id : Int) {c : Cnd} (hok : c.Ok) : (opC kd amt c id)[38]? = some (.int .u64 id) := by
  unfold opC
  rw [List.getElem?_append_right (by simp [hok.len])]
  simp [hok.len]
theorem opC_cond {kd amt id : Int} {c : Cnd} {X : World} {g : Nat} {t : TypeId} (h : Blk X g t (opC kd amt c id)) : X.rangeAt g 2 c.cells := fun j u hu => by
  have h1 := h.all (2 + j) u (by
    unfold opC
    rw [List.append_assoc, List.getElem?_append_right (by simp), List.getElem?_append_left]
    · simpa using hu
    · simpa using (List.getElem?_eq_some_iff.1 hu).1)
  simpa using h1
theorem be8s_two (x y : Int) : Oct.be8s [x, y] = Oct.be8 x ++ Oct.be8 y := by simp [Oct.be8s]
theorem rd_blks (k : IntKind) {X : World} {g : Nat} {t : TypeId} {xs : List Int} (h : X.heap[g]? = some (.cells (xs.map (Value.int k)).toArray t (0, 0))) : Oct.Rd k X (some ⟨g, 0, none⟩) xs := by
  refine .inr ⟨g, 0, rfl, (Array.getElem?_eq_some_iff.1 h).1, fun i hi => ?_⟩
  have hB : Blk X g t (xs.map (Value.int k)) := h
  rw [Nat.zero_add, hB.cell]
  simp [List.getD, hi]
/-- Its bytes. -/
def opL (kd amt : Int) (c : Cnd) (id : Int) : List Int := [kd % 256] ++ ((Oct.be8 amt ++ Oct.be8 id) ++ condL c)

set_option maxRecDepth 100000 in
set_option maxHeartbeats 4000000 in
theorem layop_any (kd amt id : Int) (c : Cnd) (v0 : Value) (base : Nat) (xs : List Int) (w : World) (HOK : Hid c.Ok) (HW : Hid (CndW c)) (HAI : Hid ((0 ≤ amt ∧ amt ≤ 18446744073709551615) ∧ (0 ≤ id ∧ id ≤ 18446744073709551615))) (HO : Hid (Oct.Own w base v0 xs)) (HBS : Hid (base ≤ w.heap.size)) (HXS : Hid (xs.length ≤ 800000)) :
    Calls Tryd.prog 10 #[v0, .agg (opC kd amt c id).toArray] w (Oct.Laid w base v0 (xs ++ opL kd amt c id)) := by
  go_enter Tryd.func10, Tryd.ntmps10
  go_upto_region 1 with fail
  have HP : Hid (Blk (w.alloc (.cells (opC kd amt c id).toArray 49)) w.heap.size 49 (opC kd amt c id)) := Lib.hid (by
    have h := Blk.new w 49 (opC kd amt c id)
    exact h)
  have HBV : Hid (Below w.heap.size w (w.alloc (.cells (opC kd amt c id).toArray 49))) := Lib.hid ((Below.refl _ _).alloc (Nat.le_refl _) _)
  generalize (w.alloc (.cells (opC kd amt c id).toArray 49)) = V at HP HBV ⊢
  have HOV : Hid (Oct.Own V.drew base v0 xs) := Lib.hid (Oct.Own.below (Oct.Own.below HO.out HBV.out) (below_drewN (Below.refl _ _) 1))
  have HLT := Lib.hid HP.out.lt
  have HNE : Hid (some w.heap.size ≠ v0.ownBlock) := Lib.hid fun e => Nat.lt_irrefl _ (Oct.own_lt HO.out e.symm)
  replace HBS : Hid (base ≤ V.heap.size) := Lib.hid (Nat.le_trans HBS.out HBV.out.size)
  generalize w.heap.size = gp at HP HLT HNE ⊢
  refine Dag.wp_region_dag (by kernel_rfl) [(4, 15), (5, 0), (6, 1), (7, 2), (8, 3), (9, 4), (10, 5), (11, 6), (12, 7), (13, 8), (14, 9), (15, 10), (16, 11), (17, 12), (18, 13), (19, 14)] (Oct.G V base v0 xs [(5, (xs ++ [kd % 256])), (11, ((xs ++ [kd % 256]) ++ (Oct.be8 amt ++ Oct.be8 id))), (14, (((xs ++ [kd % 256]) ++ (Oct.be8 amt ++ Oct.be8 id)) ++ condL c))] (fun k => ([.const (v0), .const (.pointer (some ⟨gp, 0, none⟩)), .const (.int .i64 kd), .const (.int .u8 (kd % 256)), .lay 5 1 [.int .u8 (kd % 256)] 5, .call, .const (.pointer (some ⟨gp, 1, none⟩)), .const (.int .u64 amt), .const (.pointer (some ⟨gp, 38, none⟩)), .const (.int .u64 id), .lay 23 2 [.int .u64 amt, .int .u64 id] 11, .call, .const (.pointer (some ⟨gp, 2, none⟩)), .const (.agg c.cells.toArray), .call, .move 14] : List Oct.Kind).getD k .call)) (by kernel_rfl) (by kernel_rfl) (Oct.G.start (HOV.out)) (Dag.Each.cons ?_ (Dag.Each.cons ?_ (Dag.Each.cons ?_ (Dag.Each.cons ?_ (Dag.Each.cons ?_ (Dag.Each.cons ?_ (Dag.Each.cons ?_ (Dag.Each.cons ?_ (Dag.Each.cons ?_ (Dag.Each.cons ?_ (Dag.Each.cons ?_ (Dag.Each.cons ?_ (Dag.Each.cons ?_ (Dag.Each.cons ?_ (Dag.Each.cons ?_ (Dag.Each.cons ?_ (Dag.Each.nil _))))))))))))))))) ?_
  · intro b v a X hA hi hd hC hG K hK
    have q0 : a.eval (.tmp 0) = v0 := hA.old 0 (by kernel_rfl)
    have hPX : Blk X gp 49 (opC kd amt c id) := (hG.up.block gp HLT.out HNE.out).trans HP.out
    have r0 := Oct.eval_getD q0
    refine step_val rfl (v0) X (by unfold execOp; simp only [q0, Sem.run_pure]) (hK.out _ _ (hG.val rfl hi (by simp)))
  · intro b v a X hA hi hd hC hG K hK
    have q3 : a.eval (.tmp 3) = .pointer (some ⟨gp, 0, none⟩) := hA.old 3 (by kernel_rfl)
    have hPX : Blk X gp 49 (opC kd amt c id) := (hG.up.block gp HLT.out HNE.out).trans HP.out
    have r3 := Oct.eval_getD q3
    refine step_val rfl (.pointer (some ⟨gp, 0, none⟩)) X (by unfold execOp; go_simp) (hK.out _ _ (hG.val rfl hi (by simp)))
  · intro b v a X hA hi hd hC hG K hK
    have e1 : b 1 = true := hd ⟨1, .data⟩ (by simp) rfl
    have q6 : a.eval (.tmp 6) = v 1 := hA.eval 6 1 rfl e1
    have u1 : v 1 = .pointer (some ⟨gp, 0, none⟩) := hG.each 1 e1
    rw [u1] at q6
    have hPX : Blk X gp 49 (opC kd amt c id) := (hG.up.block gp HLT.out HNE.out).trans HP.out
    have r6 := Oct.eval_getD q6
    refine step_val rfl (.int .i64 kd) X (by have k0 := (hPX.cell 0); rw [opC0] at k0; unfold execOp; go_simp) (hK.out _ _ (hG.val rfl hi (by simp)))
  · intro b v a X hA hi hd hC hG K hK
    have e2 : b 2 = true := hd ⟨2, .data⟩ (by simp) rfl
    have q7 : a.eval (.tmp 7) = v 2 := hA.eval 7 2 rfl e2
    have u2 : v 2 = .int .i64 kd := hG.each 2 e2
    rw [u2] at q7
    have hPX : Blk X gp 49 (opC kd amt c id) := (hG.up.block gp HLT.out HNE.out).trans HP.out
    have r7 := Oct.eval_getD q7
    refine step_val rfl (.int .u8 (kd % 256)) X (by unfold execOp; go_simp; try (first | rfl | (rw [IntKind.wrap_u8]))) (hK.out _ _ (hG.val rfl hi (by simp)))
  · intro b v a X hA hi hd hC hG K hK
    have e3 : b 3 = true := hd ⟨3, .data⟩ (by simp) rfl
    have q8 : a.eval (.tmp 8) = v 3 := hA.eval 8 3 rfl e3
    have u3 : v 3 = .int .u8 (kd % 256) := hG.each 3 e3
    rw [u3] at q8
    refine step_lay rfl 35 1 #[(0, .tmp 8)] rfl #[(0, .int .u8 (kd % 256))] (by simp [q8]) (.slice (some ⟨X.heap.size, 0, none⟩) 1 1) (X.alloc (.cells [.int .u8 (kd % 256)].toArray 5)) (by kernel_rfl) (hK.out _ _ (hG.laid rfl hi (by simp)))
  · intro b v a X hA hi hd hC hG K hK
    have e0 : b 0 = true := hd ⟨0, .data⟩ (by simp) rfl
    have q5 : a.eval (.tmp 5) = v 0 := hA.eval 5 0 rfl e0
    have u0 : v 0 = v0 := hG.each 0 e0
    rw [u0] at q5
    have e4 : b 4 = true := hd ⟨4, .data⟩ (by simp) rfl
    have q9 : a.eval (.tmp 9) = v 4 := hA.eval 9 4 rfl e4
    have f11 : b 11 = false := by
      refine Bool.eq_false_iff.2 fun h => ?_
      have := hC 11 _ rfl h ⟨5, .data⟩ (by simp) rfl
      rw [hi] at this
      cases this
    have f14 : b 14 = false := by
      refine Bool.eq_false_iff.2 fun h => ?_
      have := hC 14 _ rfl h ⟨11, .data⟩ (by simp) rfl
      rw [f11] at this
      cases this
    obtain ⟨g, hg1, hg2, hg3, hg4⟩ := (hG.each 4 e4).resolve_left (by rw [hi]; simp)
    rw [hg1] at q9
    have hcur : Oct.cur [] b v v0 = v0 := rfl
    have hown : Oct.Own X base v0 xs := by
      have h := hG.own
      rw [Oct.cur_none _ _ _ _ (by simp [hi, f11, f14]), Oct.curX_none _ _ _ (by simp [hi, f11, f14])] at h
      exact h
    have hPX : Blk X gp 49 (opC kd amt c id) := (hG.up.block gp HLT.out HNE.out).trans HP.out
    refine step_call rfl 28 #[.tmp 5, .tmp 9] #[36, 35] rfl #[v0, .slice (some ⟨g, 0, none⟩) 1 1] (by simp [q5, q9]) (by go_simp) (Oct.one_any v0 (some ⟨g, 0, none⟩) 1 base xs [kd % 256] X hown (src_blk hg3) (by have h1 := HXS.out; have h4 := be8_len8 amt; have h5 := be8_len8 id; simp only [List.length_append, List.length_singleton, List.length_cons, List.length_nil]; omega) (by have := hG.up.size; have := HBS.out; omega)) ?_
    rintro e Y ⟨u, rfl, hO, hgr, hL⟩
    exact ⟨u, rfl, hK.out _ _ (hG.called (pre := []) (post := [(11, ((xs ++ [kd % 256]) ++ (Oct.be8 amt ++ Oct.be8 id))), (14, (((xs ++ [kd % 256]) ++ (Oct.be8 amt ++ Oct.be8 id)) ++ condL c))]) rfl hi rfl (by simp) (by simp [f11, f14]) hO (by rw [hcur]; exact hgr) (by rw [hcur]; exact hL))⟩
  · intro b v a X hA hi hd hC hG K hK
    have q3 : a.eval (.tmp 3) = .pointer (some ⟨gp, 0, none⟩) := hA.old 3 (by kernel_rfl)
    have hPX : Blk X gp 49 (opC kd amt c id) := (hG.up.block gp HLT.out HNE.out).trans HP.out
    have r3 := Oct.eval_getD q3
    refine step_val rfl (.pointer (some ⟨gp, 1, none⟩)) X (by unfold execOp; go_simp) (hK.out _ _ (hG.val rfl hi (by simp)))
  · intro b v a X hA hi hd hC hG K hK
    have e6 : b 6 = true := hd ⟨6, .data⟩ (by simp) rfl
    have q11 : a.eval (.tmp 11) = v 6 := hA.eval 11 6 rfl e6
    have u6 : v 6 = .pointer (some ⟨gp, 1, none⟩) := hG.each 6 e6
    rw [u6] at q11
    have hPX : Blk X gp 49 (opC kd amt c id) := (hG.up.block gp HLT.out HNE.out).trans HP.out
    have r11 := Oct.eval_getD q11
    refine step_val rfl (.int .u64 amt) X (by have k0 := (hPX.cell 1); rw [opC1] at k0; unfold execOp; go_simp) (hK.out _ _ (hG.val rfl hi (by simp)))
  · intro b v a X hA hi hd hC hG K hK
    have q3 : a.eval (.tmp 3) = .pointer (some ⟨gp, 0, none⟩) := hA.old 3 (by kernel_rfl)
    have hPX : Blk X gp 49 (opC kd amt c id) := (hG.up.block gp HLT.out HNE.out).trans HP.out
    have r3 := Oct.eval_getD q3
    refine step_val rfl (.pointer (some ⟨gp, 38, none⟩)) X (by unfold execOp; go_simp) (hK.out _ _ (hG.val rfl hi (by simp)))
  · intro b v a X hA hi hd hC hG K hK
    have e8 : b 8 = true := hd ⟨8, .data⟩ (by simp) rfl
    have q13 : a.eval (.tmp 13) = v 8 := hA.eval 13 8 rfl e8
    have u8 : v 8 = .pointer (some ⟨gp, 38, none⟩) := hG.each 8 e8
    rw [u8] at q13
    have hPX : Blk X gp 49 (opC kd amt c id) := (hG.up.block gp HLT.out HNE.out).trans HP.out
    have r13 := Oct.eval_getD q13
    refine step_val rfl (.int .u64 id) X (by have k0 := (hPX.cell 38); rw [opC38 kd amt id HOK.out] at k0; unfold execOp; go_simp) (hK.out _ _ (hG.val rfl hi (by simp)))
  · intro b v a X hA hi hd hC hG K hK
    have e7 : b 7 = true := hd ⟨7, .data⟩ (by simp) rfl
    have q12 : a.eval (.tmp 12) = v 7 := hA.eval 12 7 rfl e7
    have u7 : v 7 = .int .u64 amt := hG.each 7 e7
    rw [u7] at q12
    have e9 : b 9 = true := hd ⟨9, .data⟩ (by simp) rfl
    have q14 : a.eval (.tmp 14) = v 9 := hA.eval 14 9 rfl e9
    have u9 : v 9 = .int .u64 id := hG.each 9 e9
    rw [u9] at q14
    refine step_lay rfl 96 2 #[(0, .tmp 12), (1, .tmp 14)] rfl #[(0, .int .u64 amt), (1, .int .u64 id)] (by simp [q12, q14]) (.slice (some ⟨X.heap.size, 0, none⟩) 2 2) (X.alloc (.cells [.int .u64 amt, .int .u64 id].toArray 23)) (by kernel_rfl) (hK.out _ _ (hG.laid rfl hi (by simp)))
  · intro b v a X hA hi hd hC hG K hK
    have e5 : b 5 = true := hd ⟨5, .data⟩ (by simp) rfl
    have q10 : a.eval (.tmp 10) = v 5 := hA.eval 10 5 rfl e5
    have e10 : b 10 = true := hd ⟨10, .data⟩ (by simp) rfl
    have q15 : a.eval (.tmp 15) = v 10 := hA.eval 15 10 rfl e10
    have f14 : b 14 = false := by
      refine Bool.eq_false_iff.2 fun h => ?_
      have := hC 14 _ rfl h ⟨11, .data⟩ (by simp) rfl
      rw [hi] at this
      cases this
    obtain ⟨g, hg1, hg2, hg3, hg4⟩ := (hG.each 10 e10).resolve_left (by rw [hi]; simp)
    rw [hg1] at q15
    have hcur : Oct.cur [(5, (xs ++ [kd % 256]))] b v v0 = v 5 := by show (if b 5 = true then v 5 else _) = _; rw [if_pos e5]
    have hown : Oct.Own X base (v 5) (xs ++ [kd % 256]) := by
      have h := hG.own
      rw [show Oct.cur [(5, (xs ++ [kd % 256])), (11, ((xs ++ [kd % 256]) ++ (Oct.be8 amt ++ Oct.be8 id))), (14, (((xs ++ [kd % 256]) ++ (Oct.be8 amt ++ Oct.be8 id)) ++ condL c))] b v v0 = v 5 from by rw [show [(5, (xs ++ [kd % 256])), (11, ((xs ++ [kd % 256]) ++ (Oct.be8 amt ++ Oct.be8 id))), (14, (((xs ++ [kd % 256]) ++ (Oct.be8 amt ++ Oct.be8 id)) ++ condL c))] = [(5, (xs ++ [kd % 256]))] ++ (11, ((xs ++ [kd % 256]) ++ (Oct.be8 amt ++ Oct.be8 id))) :: [(14, (((xs ++ [kd % 256]) ++ (Oct.be8 amt ++ Oct.be8 id)) ++ condL c))] from rfl, Oct.cur_app, Oct.cur_none _ _ _ _ (by simp [hi, f14]), hcur], show Oct.curX [(5, (xs ++ [kd % 256])), (11, ((xs ++ [kd % 256]) ++ (Oct.be8 amt ++ Oct.be8 id))), (14, (((xs ++ [kd % 256]) ++ (Oct.be8 amt ++ Oct.be8 id)) ++ condL c))] b xs = (xs ++ [kd % 256]) from by rw [show [(5, (xs ++ [kd % 256])), (11, ((xs ++ [kd % 256]) ++ (Oct.be8 amt ++ Oct.be8 id))), (14, (((xs ++ [kd % 256]) ++ (Oct.be8 amt ++ Oct.be8 id)) ++ condL c))] = [(5, (xs ++ [kd % 256]))] ++ (11, ((xs ++ [kd % 256]) ++ (Oct.be8 amt ++ Oct.be8 id))) :: [(14, (((xs ++ [kd % 256]) ++ (Oct.be8 amt ++ Oct.be8 id)) ++ condL c))] from rfl, Oct.curX_app, Oct.curX_none _ _ _ (by simp [hi, f14])]; show (if b 5 = true then _ else _) = _; rw [if_pos e5]] at h
      exact h
    have hPX : Blk X gp 49 (opC kd amt c id) := (hG.up.block gp HLT.out HNE.out).trans HP.out
    refine step_call rfl 27 #[.tmp 10, .tmp 15] #[36, 96] rfl #[v 5, .slice (some ⟨g, 0, none⟩) 2 2] (by simp [q10, q15]) (by go_simp) (by have h := Oct.eight_any (v 5) (some ⟨g, 0, none⟩) 2 base (xs ++ [kd % 256]) [amt, id] X hown (rd_blks .u64 (xs := [amt, id]) hg3) (by intro y hy; simp at hy; rcases hy with rfl | rfl; exact HAI.out.1; exact HAI.out.2) (by have h1 := HXS.out; have h4 := be8_len8 amt; have h5 := be8_len8 id; simp only [List.length_append, List.length_singleton, List.length_cons, List.length_nil]; omega) (by have := hG.up.size; have := HBS.out; omega); rw [be8s_two] at h; exact h) ?_
    rintro e Y ⟨u, rfl, hO, hgr, hL⟩
    exact ⟨u, rfl, hK.out _ _ (hG.called (pre := [(5, (xs ++ [kd % 256]))]) (post := [(14, (((xs ++ [kd % 256]) ++ (Oct.be8 amt ++ Oct.be8 id)) ++ condL c))]) rfl hi rfl (by simp) (by simp [f14]) hO (by rw [hcur]; exact hgr) (by rw [hcur]; exact hL))⟩
  · intro b v a X hA hi hd hC hG K hK
    have q3 : a.eval (.tmp 3) = .pointer (some ⟨gp, 0, none⟩) := hA.old 3 (by kernel_rfl)
    have hPX : Blk X gp 49 (opC kd amt c id) := (hG.up.block gp HLT.out HNE.out).trans HP.out
    have r3 := Oct.eval_getD q3
    refine step_val rfl (.pointer (some ⟨gp, 2, none⟩)) X (by unfold execOp; go_simp) (hK.out _ _ (hG.val rfl hi (by simp)))
  · intro b v a X hA hi hd hC hG K hK
    have e12 : b 12 = true := hd ⟨12, .data⟩ (by simp) rfl
    have q17 : a.eval (.tmp 17) = v 12 := hA.eval 17 12 rfl e12
    have u12 : v 12 = .pointer (some ⟨gp, 2, none⟩) := hG.each 12 e12
    rw [u12] at q17
    have hPX : Blk X gp 49 (opC kd amt c id) := (hG.up.block gp HLT.out HNE.out).trans HP.out
    have r17 := Oct.eval_getD q17
    refine step_val rfl (.agg c.cells.toArray) X ((run_mid (ops := #[]) (a := a) (yieldsIf_load_mid (S := fun W => W.rangeAt gp 2 c.cells) rfl 47 (.tmp 17) rfl gp 2 q17 c.cells _ (fun _ h => h) Tryd.underlying47 rfl (by rw [HOK.out.len]; exact info60)) X (opC_cond hPX))) (hK.out _ _ (hG.val rfl hi (by simp)))
  · intro b v a X hA hi hd hC hG K hK
    have e11 : b 11 = true := hd ⟨11, .data⟩ (by simp) rfl
    have q16 : a.eval (.tmp 16) = v 11 := hA.eval 16 11 rfl e11
    have e13 : b 13 = true := hd ⟨13, .data⟩ (by simp) rfl
    have q18 : a.eval (.tmp 18) = v 13 := hA.eval 18 13 rfl e13
    have u13 : v 13 = .agg c.cells.toArray := hG.each 13 e13
    rw [u13] at q18
    have hcur : Oct.cur [(5, (xs ++ [kd % 256])), (11, ((xs ++ [kd % 256]) ++ (Oct.be8 amt ++ Oct.be8 id)))] b v v0 = v 11 := by show (if b 11 = true then v 11 else _) = _; rw [if_pos e11]
    have hown : Oct.Own X base (v 11) ((xs ++ [kd % 256]) ++ (Oct.be8 amt ++ Oct.be8 id)) := by
      have h := hG.own
      rw [show Oct.cur [(5, (xs ++ [kd % 256])), (11, ((xs ++ [kd % 256]) ++ (Oct.be8 amt ++ Oct.be8 id))), (14, (((xs ++ [kd % 256]) ++ (Oct.be8 amt ++ Oct.be8 id)) ++ condL c))] b v v0 = v 11 from by rw [show [(5, (xs ++ [kd % 256])), (11, ((xs ++ [kd % 256]) ++ (Oct.be8 amt ++ Oct.be8 id))), (14, (((xs ++ [kd % 256]) ++ (Oct.be8 amt ++ Oct.be8 id)) ++ condL c))] = [(5, (xs ++ [kd % 256])), (11, ((xs ++ [kd % 256]) ++ (Oct.be8 amt ++ Oct.be8 id)))] ++ (14, (((xs ++ [kd % 256]) ++ (Oct.be8 amt ++ Oct.be8 id)) ++ condL c)) :: [] from rfl, Oct.cur_app, Oct.cur_none _ _ _ _ (by simp [hi]), hcur], show Oct.curX [(5, (xs ++ [kd % 256])), (11, ((xs ++ [kd % 256]) ++ (Oct.be8 amt ++ Oct.be8 id))), (14, (((xs ++ [kd % 256]) ++ (Oct.be8 amt ++ Oct.be8 id)) ++ condL c))] b xs = ((xs ++ [kd % 256]) ++ (Oct.be8 amt ++ Oct.be8 id)) from by rw [show [(5, (xs ++ [kd % 256])), (11, ((xs ++ [kd % 256]) ++ (Oct.be8 amt ++ Oct.be8 id))), (14, (((xs ++ [kd % 256]) ++ (Oct.be8 amt ++ Oct.be8 id)) ++ condL c))] = [(5, (xs ++ [kd % 256])), (11, ((xs ++ [kd % 256]) ++ (Oct.be8 amt ++ Oct.be8 id)))] ++ (14, (((xs ++ [kd % 256]) ++ (Oct.be8 amt ++ Oct.be8 id)) ++ condL c)) :: [] from rfl, Oct.curX_app, Oct.curX_none _ _ _ (by simp [hi])]; show (if b 11 = true then _ else _) = _; rw [if_pos e11]] at h
      exact h
    have hPX : Blk X gp 49 (opC kd amt c id) := (hG.up.block gp HLT.out HNE.out).trans HP.out
    refine step_call rfl 29 #[.tmp 16, .tmp 18] #[36, 47] rfl #[v 11, .agg c.cells.toArray] (by simp [q16, q18]) (by go_simp) (laycond_any c (v 11) base ((xs ++ [kd % 256]) ++ (Oct.be8 amt ++ Oct.be8 id)) X HOK HW (Lib.hid hown) (Lib.hid (by have := hG.up.size; have := HBS.out; omega)) (Lib.hid (by have h1 := HXS.out; have h4 := be8_len8 amt; have h5 := be8_len8 id; simp only [List.length_append, List.length_singleton, List.length_cons, List.length_nil]; omega))) ?_
    rintro e Y ⟨u, rfl, hO, hgr, hL⟩
    exact ⟨u, rfl, hK.out _ _ (hG.called (pre := [(5, (xs ++ [kd % 256])), (11, ((xs ++ [kd % 256]) ++ (Oct.be8 amt ++ Oct.be8 id)))]) (post := []) rfl hi rfl (by simp) (by simp) hO (by rw [hcur]; exact hgr) (by rw [hcur]; exact hL))⟩
  · intro b v a X hA hi hd hC hG K hK
    have e14 : b 14 = true := hd ⟨14, .data⟩ (by simp) rfl
    have q19 : a.eval (.tmp 19) = v 14 := hA.eval 19 14 rfl e14
    refine step_val rfl (v 14) X (by unfold execOp; simp only [q19, Sem.run_pure]) (hK.out _ _ (hG.mov rfl hi e14 (by simp)))
  · intro b v Y hall hG
    have hl : b 14 = true := hall 14 (by decide)
    have hcur : Oct.cur [(5, (xs ++ [kd % 256])), (11, ((xs ++ [kd % 256]) ++ (Oct.be8 amt ++ Oct.be8 id))), (14, (((xs ++ [kd % 256]) ++ (Oct.be8 amt ++ Oct.be8 id)) ++ condL c))] b v v0 = v 14 := by show (if b 14 = true then v 14 else _) = _; rw [if_pos hl]
    have hcx : Oct.curX [(5, (xs ++ [kd % 256])), (11, ((xs ++ [kd % 256]) ++ (Oct.be8 amt ++ Oct.be8 id))), (14, (((xs ++ [kd % 256]) ++ (Oct.be8 amt ++ Oct.be8 id)) ++ condL c))] b xs = (((xs ++ [kd % 256]) ++ (Oct.be8 amt ++ Oct.be8 id)) ++ condL c) := by show (if b 14 = true then _ else _) = _; rw [if_pos hl]
    have hown := hG.own
    have hlies := hG.lies
    have hup := hG.up
    rw [hcur, hcx] at hown
    rw [hcur] at hlies
    have z0 : v 0 = v0 := hG.each 0 (hall 0 (by decide))
    have z1 : v 1 = .pointer (some ⟨gp, 0, none⟩) := hG.each 1 (hall 1 (by decide))
    have z2 : v 2 = .int .i64 kd := hG.each 2 (hall 2 (by decide))
    have z3 : v 3 = .int .u8 (kd % 256) := hG.each 3 (hall 3 (by decide))
    have z6 : v 6 = .pointer (some ⟨gp, 1, none⟩) := hG.each 6 (hall 6 (by decide))
    have z7 : v 7 = .int .u64 amt := hG.each 7 (hall 7 (by decide))
    have z8 : v 8 = .pointer (some ⟨gp, 38, none⟩) := hG.each 8 (hall 8 (by decide))
    have z9 : v 9 = .int .u64 id := hG.each 9 (hall 9 (by decide))
    have z12 : v 12 = .pointer (some ⟨gp, 2, none⟩) := hG.each 12 (hall 12 (by decide))
    have z13 : v 13 = .agg c.cells.toArray := hG.each 13 (hall 13 (by decide))
    have z15 : v 15 = v 14 := (hG.each 15 (hall 15 (by decide))).2
    simp only [Dag.fullA, List.foldl_cons, List.foldl_nil, List.setIfInBounds_toArray, List.set_cons_zero, List.set_cons_succ]
    rw [z0, z1, z2, z3, z6, z7, z8, z9, z12, z13, z15]
    have HWN : Hid (Oct.Laid w base v0 (((xs ++ [kd % 256]) ++ (Oct.be8 amt ++ Oct.be8 id)) ++ condL c) (.returned (v 14)) Y) := Lib.hid (Oct.Laid.mk HBV.out hown hup hlies)
    generalize v 14 = vr at HWN ⊢
    clear hown hlies hup hcur
    go_wp2
    go_ret
    have h := HWN.out
    rw [show (((xs ++ [kd % 256]) ++ (Oct.be8 amt ++ Oct.be8 id)) ++ condL c) = xs ++ opL kd amt c id by simp [opL]] at h
    exact h
end Go.Proofs.YtbdjlnejlkiijaaDoorRRR
