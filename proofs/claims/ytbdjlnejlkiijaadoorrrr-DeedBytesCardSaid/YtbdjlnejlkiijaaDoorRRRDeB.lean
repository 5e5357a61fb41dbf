/-
  deed.layCond (29): a payment behind an Out.
-/
import Derived.Test.YtbdjlnejlkiijaaDoorRRROctDag
import Derived.Test.YtbdjlnejlkiijaaDoorRRRDeA
namespace Go.Proofs.YtbdjlnejlkiijaaDoorRRR
open Go.RowKit
set_option linter.unusedVariables false
set_option linter.unusedSimpArgs false

theorem be8_len8 (x : Int) : (Oct.be8 x).length = 8 := by simp [Oct.be8, Oct.be4]
theorem rd_blk (k : IntKind) {X : World} {g : Nat} {t : TypeId} {x : Int} (h : X.heap[g]? = some (.cells [Value.int k x].toArray t (0, 0))) : Oct.Rd k X (some ⟨g, 0, none⟩) [x] := by
  refine .inr ⟨g, 0, rfl, (Array.getElem?_eq_some_iff.1 h).1, fun i hi => ?_⟩
  obtain rfl : i = 0 := by simpa using hi
  have hB : Blk X g t [Value.int k x] := h
  rw [hB.cell]
  rfl
theorem src_blk {X : World} {g : Nat} {t : TypeId} {x : Int} (h : X.heap[g]? = some (.cells [Value.int .u8 x].toArray t (0, 0))) : Oct.Src X (some ⟨g, 0, none⟩) 1 [x] := by
  refine ⟨fun h => (by cases h), .inr ⟨g, 0, rfl, (Array.getElem?_eq_some_iff.1 h).1, fun i hi => ?_⟩⟩
  obtain rfl : i = 0 := by simpa using hi
  have hB : Blk X g t [Value.int .u8 x] := h
  rw [hB.cell]
  rfl
theorem run_mid {P : Program} {ops : Array Oper} {S : World → Prop} {o : Oper} {u : Value} {a : Act} (h : YieldsIf P ops S o u a) (X : World) (hS : S X) (hg : o.guard = none := by rfl) : (execOp a.eval o).run P X = .ok (.value u) X := by
  rcases h with h | h
  · exact h.2 X hS
  · have := h.1
    unfold Region.wanted at this
    rw [hg] at this
    cases this
theorem infoH : (Tryd.prog.info? 45).map (·.size) = some 32 := by kernel_rfl
theorem cnd_hash {c : Cnd} (hok : c.Ok) {X : World} {g : Nat} {t : TypeId} (h : Blk X g t c.cells) : X.rangeAt g 3 (u8s c.h) := by
  have := Cnd.Ok.range c hok (w := X) (b := g) (o := 0) (by simpa using h.all)
  simpa using this
/-- A payment's bytes. -/
def condL (c : Cnd) : List Int := Oct.be8 c.id ++ ([c.side % 256] ++ (Oct.be8 c.amt ++ (c.h ++ Oct.be8 c.ex)))

set_option maxRecDepth 100000 in
set_option maxHeartbeats 4000000 in
theorem laycond_any (c : Cnd) (v0 : Value) (base : Nat) (xs : List Int) (w : World) (HOK : Hid c.Ok) (HW : Hid ((0 ≤ c.id ∧ c.id ≤ 18446744073709551615) ∧ (0 ≤ c.amt ∧ c.amt ≤ 18446744073709551615) ∧ (0 ≤ c.ex ∧ c.ex ≤ 18446744073709551615))) (HO : Hid (Oct.Own w base v0 xs)) (HBS : Hid (base ≤ w.heap.size)) (HXS : Hid (xs.length ≤ 900000)) :
    Calls Tryd.prog 29 #[v0, .agg c.cells.toArray] w (Oct.Laid w base v0 (xs ++ condL c)) := by
  go_enter Tryd.func29, Tryd.ntmps29
  go_upto_region 1 with fail
  have HP : Hid (Blk (w.alloc (.cells c.cells.toArray 47)) w.heap.size 47 (c.cells)) := Lib.hid (by
    have h := Blk.new w 47 (c.cells)
    exact h)
  have HBV : Hid (Below w.heap.size w (w.alloc (.cells c.cells.toArray 47))) := Lib.hid ((Below.refl _ _).alloc (Nat.le_refl _) _)
  generalize (w.alloc (.cells c.cells.toArray 47)) = V at HP HBV ⊢
  have HOV : Hid (Oct.Own V.drew base v0 xs) := Lib.hid (Oct.Own.below (Oct.Own.below HO.out HBV.out) (below_drewN (Below.refl _ _) 1))
  have HLT := Lib.hid HP.out.lt
  have HNE : Hid (some w.heap.size ≠ v0.ownBlock) := Lib.hid fun e => Nat.lt_irrefl _ (Oct.own_lt HO.out e.symm)
  replace HBS : Hid (base ≤ V.heap.size) := Lib.hid (Nat.le_trans HBS.out HBV.out.size)
  generalize w.heap.size = gp at HP HLT HNE ⊢
  refine Dag.wp_region_dag (by kernel_rfl) [(4, 22), (5, 0), (6, 1), (7, 2), (8, 3), (9, 4), (10, 5), (11, 6), (12, 7), (13, 8), (14, 9), (15, 10), (16, 11), (17, 12), (18, 13), (19, 14), (20, 15), (21, 16), (22, 17), (23, 18), (24, 19), (25, 20), (26, 21)] (Oct.G V base v0 xs [(4, (xs ++ Oct.be8 c.id)), (9, ((xs ++ Oct.be8 c.id) ++ [c.side % 256])), (13, (((xs ++ Oct.be8 c.id) ++ [c.side % 256]) ++ Oct.be8 c.amt)), (17, ((((xs ++ Oct.be8 c.id) ++ [c.side % 256]) ++ Oct.be8 c.amt) ++ c.h)), (21, (((((xs ++ Oct.be8 c.id) ++ [c.side % 256]) ++ Oct.be8 c.amt) ++ c.h) ++ Oct.be8 c.ex))] (fun k => ([.const (v0), .const (.pointer (some ⟨gp, 0, none⟩)), .const (.int .u64 c.id), .lay 23 1 [.int .u64 c.id] 4, .call, .const (.pointer (some ⟨gp, 1, none⟩)), .const (.int .i64 c.side), .const (.int .u8 (c.side % 256)), .lay 5 1 [.int .u8 (c.side % 256)] 9, .call, .const (.pointer (some ⟨gp, 2, none⟩)), .const (.int .u64 c.amt), .lay 23 1 [.int .u64 c.amt] 13, .call, .const (.pointer (some ⟨gp, 3, none⟩)), .const (.agg (u8s c.h).toArray), .lay 52 1 (u8s c.h) 17, .call, .const (.pointer (some ⟨gp, 35, none⟩)), .const (.int .u64 c.ex), .lay 23 1 [.int .u64 c.ex] 21, .call, .move 21] : List Oct.Kind).getD k .call)) (by kernel_rfl) (by kernel_rfl) (Oct.G.start (HOV.out)) (Dag.Each.cons ?_ (Dag.Each.cons ?_ (Dag.Each.cons ?_ (Dag.Each.cons ?_ (Dag.Each.cons ?_ (Dag.Each.cons ?_ (Dag.Each.cons ?_ (Dag.Each.cons ?_ (Dag.Each.cons ?_ (Dag.Each.cons ?_ (Dag.Each.cons ?_ (Dag.Each.cons ?_ (Dag.Each.cons ?_ (Dag.Each.cons ?_ (Dag.Each.cons ?_ (Dag.Each.cons ?_ (Dag.Each.cons ?_ (Dag.Each.cons ?_ (Dag.Each.cons ?_ (Dag.Each.cons ?_ (Dag.Each.cons ?_ (Dag.Each.cons ?_ (Dag.Each.cons ?_ (Dag.Each.nil _)))))))))))))))))))))))) ?_
  · intro b v a X hA hi hd hC hG K hK
    have q0 : a.eval (.tmp 0) = v0 := hA.old 0 (by kernel_rfl)
    have hPX : Blk X gp 47 c.cells := (hG.up.block gp HLT.out HNE.out).trans HP.out
    have r0 := Oct.eval_getD q0
    refine step_val rfl (v0) X (by unfold execOp; simp only [q0, Sem.run_pure]) (hK.out _ _ (hG.val rfl hi (by simp)))
  · intro b v a X hA hi hd hC hG K hK
    have q3 : a.eval (.tmp 3) = .pointer (some ⟨gp, 0, none⟩) := hA.old 3 (by kernel_rfl)
    have hPX : Blk X gp 47 c.cells := (hG.up.block gp HLT.out HNE.out).trans HP.out
    have r3 := Oct.eval_getD q3
    refine step_val rfl (.pointer (some ⟨gp, 0, none⟩)) X (by unfold execOp; go_simp) (hK.out _ _ (hG.val rfl hi (by simp)))
  · intro b v a X hA hi hd hC hG K hK
    have e1 : b 1 = true := hd ⟨1, .data⟩ (by simp) rfl
    have q6 : a.eval (.tmp 6) = v 1 := hA.eval 6 1 rfl e1
    have u1 : v 1 = .pointer (some ⟨gp, 0, none⟩) := hG.each 1 e1
    rw [u1] at q6
    have hPX : Blk X gp 47 c.cells := (hG.up.block gp HLT.out HNE.out).trans HP.out
    have r6 := Oct.eval_getD q6
    refine step_val rfl (.int .u64 c.id) X (by have k0 := (hPX.cell 0); rw [c.c0] at k0; unfold execOp; go_simp) (hK.out _ _ (hG.val rfl hi (by simp)))
  · intro b v a X hA hi hd hC hG K hK
    have e2 : b 2 = true := hd ⟨2, .data⟩ (by simp) rfl
    have q7 : a.eval (.tmp 7) = v 2 := hA.eval 7 2 rfl e2
    have u2 : v 2 = .int .u64 c.id := hG.each 2 e2
    rw [u2] at q7
    refine step_lay rfl 96 1 #[(0, .tmp 7)] rfl #[(0, .int .u64 c.id)] (by simp [q7]) (.slice (some ⟨X.heap.size, 0, none⟩) 1 1) (X.alloc (.cells [.int .u64 c.id].toArray 23)) (by kernel_rfl) (hK.out _ _ (hG.laid rfl hi (by simp)))
  · intro b v a X hA hi hd hC hG K hK
    have e0 : b 0 = true := hd ⟨0, .data⟩ (by simp) rfl
    have q5 : a.eval (.tmp 5) = v 0 := hA.eval 5 0 rfl e0
    have u0 : v 0 = v0 := hG.each 0 e0
    rw [u0] at q5
    have e3 : b 3 = true := hd ⟨3, .data⟩ (by simp) rfl
    have q8 : a.eval (.tmp 8) = v 3 := hA.eval 8 3 rfl e3
    have f9 : b 9 = false := by
      refine Bool.eq_false_iff.2 fun h => ?_
      have := hC 9 _ rfl h ⟨4, .data⟩ (by simp) rfl
      rw [hi] at this
      cases this
    have f13 : b 13 = false := by
      refine Bool.eq_false_iff.2 fun h => ?_
      have := hC 13 _ rfl h ⟨9, .data⟩ (by simp) rfl
      rw [f9] at this
      cases this
    have f17 : b 17 = false := by
      refine Bool.eq_false_iff.2 fun h => ?_
      have := hC 17 _ rfl h ⟨13, .data⟩ (by simp) rfl
      rw [f13] at this
      cases this
    have f21 : b 21 = false := by
      refine Bool.eq_false_iff.2 fun h => ?_
      have := hC 21 _ rfl h ⟨17, .data⟩ (by simp) rfl
      rw [f17] at this
      cases this
    obtain ⟨g, hg1, hg2, hg3, hg4⟩ := (hG.each 3 e3).resolve_left (by rw [hi]; simp)
    rw [hg1] at q8
    have hcur : Oct.cur [] b v v0 = v0 := rfl
    have hown : Oct.Own X base v0 xs := by
      have h := hG.own
      rw [Oct.cur_none _ _ _ _ (by simp [hi, f9, f13, f17, f21]), Oct.curX_none _ _ _ (by simp [hi, f9, f13, f17, f21])] at h
      exact h
    have hPX : Blk X gp 47 c.cells := (hG.up.block gp HLT.out HNE.out).trans HP.out
    refine step_call rfl 27 #[.tmp 5, .tmp 8] #[36, 96] rfl #[v0, .slice (some ⟨g, 0, none⟩) 1 1] (by simp [q5, q8]) (by go_simp) (by have h := Oct.eight_any v0 (some ⟨g, 0, none⟩) 1 base xs [c.id] X hown (rd_blk .u64 hg3) (by simp; exact HW.out.1) (by have h1 := HXS.out; have h2 := HOK.out.h; have h3 := be8_len8 c.id; have h4 := be8_len8 c.amt; have h5 := be8_len8 c.ex; simp only [List.length_append, List.length_singleton]; omega) (by have := hG.up.size; have := HBS.out; omega); rw [Oct.be8s_one] at h; exact h) ?_
    rintro e Y ⟨u, rfl, hO, hgr, hL⟩
    exact ⟨u, rfl, hK.out _ _ (hG.called (pre := []) (post := [(9, ((xs ++ Oct.be8 c.id) ++ [c.side % 256])), (13, (((xs ++ Oct.be8 c.id) ++ [c.side % 256]) ++ Oct.be8 c.amt)), (17, ((((xs ++ Oct.be8 c.id) ++ [c.side % 256]) ++ Oct.be8 c.amt) ++ c.h)), (21, (((((xs ++ Oct.be8 c.id) ++ [c.side % 256]) ++ Oct.be8 c.amt) ++ c.h) ++ Oct.be8 c.ex))]) rfl hi rfl (by simp) (by simp [f9, f13, f17, f21]) hO (by rw [hcur]; exact hgr) (by rw [hcur]; exact hL))⟩
  · intro b v a X hA hi hd hC hG K hK
    have q3 : a.eval (.tmp 3) = .pointer (some ⟨gp, 0, none⟩) := hA.old 3 (by kernel_rfl)
    have hPX : Blk X gp 47 c.cells := (hG.up.block gp HLT.out HNE.out).trans HP.out
    have r3 := Oct.eval_getD q3
    refine step_val rfl (.pointer (some ⟨gp, 1, none⟩)) X (by unfold execOp; go_simp) (hK.out _ _ (hG.val rfl hi (by simp)))
  · intro b v a X hA hi hd hC hG K hK
    have e5 : b 5 = true := hd ⟨5, .data⟩ (by simp) rfl
    have q10 : a.eval (.tmp 10) = v 5 := hA.eval 10 5 rfl e5
    have u5 : v 5 = .pointer (some ⟨gp, 1, none⟩) := hG.each 5 e5
    rw [u5] at q10
    have hPX : Blk X gp 47 c.cells := (hG.up.block gp HLT.out HNE.out).trans HP.out
    have r10 := Oct.eval_getD q10
    refine step_val rfl (.int .i64 c.side) X (by have k0 := (hPX.cell 1); rw [c.c1] at k0; unfold execOp; go_simp) (hK.out _ _ (hG.val rfl hi (by simp)))
  · intro b v a X hA hi hd hC hG K hK
    have e6 : b 6 = true := hd ⟨6, .data⟩ (by simp) rfl
    have q11 : a.eval (.tmp 11) = v 6 := hA.eval 11 6 rfl e6
    have u6 : v 6 = .int .i64 c.side := hG.each 6 e6
    rw [u6] at q11
    have hPX : Blk X gp 47 c.cells := (hG.up.block gp HLT.out HNE.out).trans HP.out
    have r11 := Oct.eval_getD q11
    refine step_val rfl (.int .u8 (c.side % 256)) X (by unfold execOp; go_simp; try (first | rfl | (rw [IntKind.wrap_u8]))) (hK.out _ _ (hG.val rfl hi (by simp)))
  · intro b v a X hA hi hd hC hG K hK
    have e7 : b 7 = true := hd ⟨7, .data⟩ (by simp) rfl
    have q12 : a.eval (.tmp 12) = v 7 := hA.eval 12 7 rfl e7
    have u7 : v 7 = .int .u8 (c.side % 256) := hG.each 7 e7
    rw [u7] at q12
    refine step_lay rfl 35 1 #[(0, .tmp 12)] rfl #[(0, .int .u8 (c.side % 256))] (by simp [q12]) (.slice (some ⟨X.heap.size, 0, none⟩) 1 1) (X.alloc (.cells [.int .u8 (c.side % 256)].toArray 5)) (by kernel_rfl) (hK.out _ _ (hG.laid rfl hi (by simp)))
  · intro b v a X hA hi hd hC hG K hK
    have e4 : b 4 = true := hd ⟨4, .data⟩ (by simp) rfl
    have q9 : a.eval (.tmp 9) = v 4 := hA.eval 9 4 rfl e4
    have e8 : b 8 = true := hd ⟨8, .data⟩ (by simp) rfl
    have q13 : a.eval (.tmp 13) = v 8 := hA.eval 13 8 rfl e8
    have f13 : b 13 = false := by
      refine Bool.eq_false_iff.2 fun h => ?_
      have := hC 13 _ rfl h ⟨9, .data⟩ (by simp) rfl
      rw [hi] at this
      cases this
    have f17 : b 17 = false := by
      refine Bool.eq_false_iff.2 fun h => ?_
      have := hC 17 _ rfl h ⟨13, .data⟩ (by simp) rfl
      rw [f13] at this
      cases this
    have f21 : b 21 = false := by
      refine Bool.eq_false_iff.2 fun h => ?_
      have := hC 21 _ rfl h ⟨17, .data⟩ (by simp) rfl
      rw [f17] at this
      cases this
    obtain ⟨g, hg1, hg2, hg3, hg4⟩ := (hG.each 8 e8).resolve_left (by rw [hi]; simp)
    rw [hg1] at q13
    have hcur : Oct.cur [(4, (xs ++ Oct.be8 c.id))] b v v0 = v 4 := by show (if b 4 = true then v 4 else _) = _; rw [if_pos e4]
    have hown : Oct.Own X base (v 4) (xs ++ Oct.be8 c.id) := by
      have h := hG.own
      rw [show Oct.cur [(4, (xs ++ Oct.be8 c.id)), (9, ((xs ++ Oct.be8 c.id) ++ [c.side % 256])), (13, (((xs ++ Oct.be8 c.id) ++ [c.side % 256]) ++ Oct.be8 c.amt)), (17, ((((xs ++ Oct.be8 c.id) ++ [c.side % 256]) ++ Oct.be8 c.amt) ++ c.h)), (21, (((((xs ++ Oct.be8 c.id) ++ [c.side % 256]) ++ Oct.be8 c.amt) ++ c.h) ++ Oct.be8 c.ex))] b v v0 = v 4 from by rw [show [(4, (xs ++ Oct.be8 c.id)), (9, ((xs ++ Oct.be8 c.id) ++ [c.side % 256])), (13, (((xs ++ Oct.be8 c.id) ++ [c.side % 256]) ++ Oct.be8 c.amt)), (17, ((((xs ++ Oct.be8 c.id) ++ [c.side % 256]) ++ Oct.be8 c.amt) ++ c.h)), (21, (((((xs ++ Oct.be8 c.id) ++ [c.side % 256]) ++ Oct.be8 c.amt) ++ c.h) ++ Oct.be8 c.ex))] = [(4, (xs ++ Oct.be8 c.id))] ++ (9, ((xs ++ Oct.be8 c.id) ++ [c.side % 256])) :: [(13, (((xs ++ Oct.be8 c.id) ++ [c.side % 256]) ++ Oct.be8 c.amt)), (17, ((((xs ++ Oct.be8 c.id) ++ [c.side % 256]) ++ Oct.be8 c.amt) ++ c.h)), (21, (((((xs ++ Oct.be8 c.id) ++ [c.side % 256]) ++ Oct.be8 c.amt) ++ c.h) ++ Oct.be8 c.ex))] from rfl, Oct.cur_app, Oct.cur_none _ _ _ _ (by simp [hi, f13, f17, f21]), hcur], show Oct.curX [(4, (xs ++ Oct.be8 c.id)), (9, ((xs ++ Oct.be8 c.id) ++ [c.side % 256])), (13, (((xs ++ Oct.be8 c.id) ++ [c.side % 256]) ++ Oct.be8 c.amt)), (17, ((((xs ++ Oct.be8 c.id) ++ [c.side % 256]) ++ Oct.be8 c.amt) ++ c.h)), (21, (((((xs ++ Oct.be8 c.id) ++ [c.side % 256]) ++ Oct.be8 c.amt) ++ c.h) ++ Oct.be8 c.ex))] b xs = (xs ++ Oct.be8 c.id) from by rw [show [(4, (xs ++ Oct.be8 c.id)), (9, ((xs ++ Oct.be8 c.id) ++ [c.side % 256])), (13, (((xs ++ Oct.be8 c.id) ++ [c.side % 256]) ++ Oct.be8 c.amt)), (17, ((((xs ++ Oct.be8 c.id) ++ [c.side % 256]) ++ Oct.be8 c.amt) ++ c.h)), (21, (((((xs ++ Oct.be8 c.id) ++ [c.side % 256]) ++ Oct.be8 c.amt) ++ c.h) ++ Oct.be8 c.ex))] = [(4, (xs ++ Oct.be8 c.id))] ++ (9, ((xs ++ Oct.be8 c.id) ++ [c.side % 256])) :: [(13, (((xs ++ Oct.be8 c.id) ++ [c.side % 256]) ++ Oct.be8 c.amt)), (17, ((((xs ++ Oct.be8 c.id) ++ [c.side % 256]) ++ Oct.be8 c.amt) ++ c.h)), (21, (((((xs ++ Oct.be8 c.id) ++ [c.side % 256]) ++ Oct.be8 c.amt) ++ c.h) ++ Oct.be8 c.ex))] from rfl, Oct.curX_app, Oct.curX_none _ _ _ (by simp [hi, f13, f17, f21])]; show (if b 4 = true then _ else _) = _; rw [if_pos e4]] at h
      exact h
    have hPX : Blk X gp 47 c.cells := (hG.up.block gp HLT.out HNE.out).trans HP.out
    refine step_call rfl 28 #[.tmp 9, .tmp 13] #[36, 35] rfl #[v 4, .slice (some ⟨g, 0, none⟩) 1 1] (by simp [q9, q13]) (by go_simp) (Oct.one_any (v 4) (some ⟨g, 0, none⟩) 1 base (xs ++ Oct.be8 c.id) [c.side % 256] X hown (src_blk hg3) (by have h1 := HXS.out; have h2 := HOK.out.h; have h3 := be8_len8 c.id; have h4 := be8_len8 c.amt; have h5 := be8_len8 c.ex; simp only [List.length_append, List.length_singleton]; omega) (by have := hG.up.size; have := HBS.out; omega)) ?_
    rintro e Y ⟨u, rfl, hO, hgr, hL⟩
    exact ⟨u, rfl, hK.out _ _ (hG.called (pre := [(4, (xs ++ Oct.be8 c.id))]) (post := [(13, (((xs ++ Oct.be8 c.id) ++ [c.side % 256]) ++ Oct.be8 c.amt)), (17, ((((xs ++ Oct.be8 c.id) ++ [c.side % 256]) ++ Oct.be8 c.amt) ++ c.h)), (21, (((((xs ++ Oct.be8 c.id) ++ [c.side % 256]) ++ Oct.be8 c.amt) ++ c.h) ++ Oct.be8 c.ex))]) rfl hi rfl (by simp) (by simp [f13, f17, f21]) hO (by rw [hcur]; exact hgr) (by rw [hcur]; exact hL))⟩
  · intro b v a X hA hi hd hC hG K hK
    have q3 : a.eval (.tmp 3) = .pointer (some ⟨gp, 0, none⟩) := hA.old 3 (by kernel_rfl)
    have hPX : Blk X gp 47 c.cells := (hG.up.block gp HLT.out HNE.out).trans HP.out
    have r3 := Oct.eval_getD q3
    refine step_val rfl (.pointer (some ⟨gp, 2, none⟩)) X (by unfold execOp; go_simp) (hK.out _ _ (hG.val rfl hi (by simp)))
  · intro b v a X hA hi hd hC hG K hK
    have e10 : b 10 = true := hd ⟨10, .data⟩ (by simp) rfl
    have q15 : a.eval (.tmp 15) = v 10 := hA.eval 15 10 rfl e10
    have u10 : v 10 = .pointer (some ⟨gp, 2, none⟩) := hG.each 10 e10
    rw [u10] at q15
    have hPX : Blk X gp 47 c.cells := (hG.up.block gp HLT.out HNE.out).trans HP.out
    have r15 := Oct.eval_getD q15
    refine step_val rfl (.int .u64 c.amt) X (by have k0 := (hPX.cell 2); rw [c.c2] at k0; unfold execOp; go_simp) (hK.out _ _ (hG.val rfl hi (by simp)))
  · intro b v a X hA hi hd hC hG K hK
    have e11 : b 11 = true := hd ⟨11, .data⟩ (by simp) rfl
    have q16 : a.eval (.tmp 16) = v 11 := hA.eval 16 11 rfl e11
    have u11 : v 11 = .int .u64 c.amt := hG.each 11 e11
    rw [u11] at q16
    refine step_lay rfl 96 1 #[(0, .tmp 16)] rfl #[(0, .int .u64 c.amt)] (by simp [q16]) (.slice (some ⟨X.heap.size, 0, none⟩) 1 1) (X.alloc (.cells [.int .u64 c.amt].toArray 23)) (by kernel_rfl) (hK.out _ _ (hG.laid rfl hi (by simp)))
  · intro b v a X hA hi hd hC hG K hK
    have e9 : b 9 = true := hd ⟨9, .data⟩ (by simp) rfl
    have q14 : a.eval (.tmp 14) = v 9 := hA.eval 14 9 rfl e9
    have e12 : b 12 = true := hd ⟨12, .data⟩ (by simp) rfl
    have q17 : a.eval (.tmp 17) = v 12 := hA.eval 17 12 rfl e12
    have f17 : b 17 = false := by
      refine Bool.eq_false_iff.2 fun h => ?_
      have := hC 17 _ rfl h ⟨13, .data⟩ (by simp) rfl
      rw [hi] at this
      cases this
    have f21 : b 21 = false := by
      refine Bool.eq_false_iff.2 fun h => ?_
      have := hC 21 _ rfl h ⟨17, .data⟩ (by simp) rfl
      rw [f17] at this
      cases this
    obtain ⟨g, hg1, hg2, hg3, hg4⟩ := (hG.each 12 e12).resolve_left (by rw [hi]; simp)
    rw [hg1] at q17
    have hcur : Oct.cur [(4, (xs ++ Oct.be8 c.id)), (9, ((xs ++ Oct.be8 c.id) ++ [c.side % 256]))] b v v0 = v 9 := by show (if b 9 = true then v 9 else _) = _; rw [if_pos e9]
    have hown : Oct.Own X base (v 9) ((xs ++ Oct.be8 c.id) ++ [c.side % 256]) := by
      have h := hG.own
      rw [show Oct.cur [(4, (xs ++ Oct.be8 c.id)), (9, ((xs ++ Oct.be8 c.id) ++ [c.side % 256])), (13, (((xs ++ Oct.be8 c.id) ++ [c.side % 256]) ++ Oct.be8 c.amt)), (17, ((((xs ++ Oct.be8 c.id) ++ [c.side % 256]) ++ Oct.be8 c.amt) ++ c.h)), (21, (((((xs ++ Oct.be8 c.id) ++ [c.side % 256]) ++ Oct.be8 c.amt) ++ c.h) ++ Oct.be8 c.ex))] b v v0 = v 9 from by rw [show [(4, (xs ++ Oct.be8 c.id)), (9, ((xs ++ Oct.be8 c.id) ++ [c.side % 256])), (13, (((xs ++ Oct.be8 c.id) ++ [c.side % 256]) ++ Oct.be8 c.amt)), (17, ((((xs ++ Oct.be8 c.id) ++ [c.side % 256]) ++ Oct.be8 c.amt) ++ c.h)), (21, (((((xs ++ Oct.be8 c.id) ++ [c.side % 256]) ++ Oct.be8 c.amt) ++ c.h) ++ Oct.be8 c.ex))] = [(4, (xs ++ Oct.be8 c.id)), (9, ((xs ++ Oct.be8 c.id) ++ [c.side % 256]))] ++ (13, (((xs ++ Oct.be8 c.id) ++ [c.side % 256]) ++ Oct.be8 c.amt)) :: [(17, ((((xs ++ Oct.be8 c.id) ++ [c.side % 256]) ++ Oct.be8 c.amt) ++ c.h)), (21, (((((xs ++ Oct.be8 c.id) ++ [c.side % 256]) ++ Oct.be8 c.amt) ++ c.h) ++ Oct.be8 c.ex))] from rfl, Oct.cur_app, Oct.cur_none _ _ _ _ (by simp [hi, f17, f21]), hcur], show Oct.curX [(4, (xs ++ Oct.be8 c.id)), (9, ((xs ++ Oct.be8 c.id) ++ [c.side % 256])), (13, (((xs ++ Oct.be8 c.id) ++ [c.side % 256]) ++ Oct.be8 c.amt)), (17, ((((xs ++ Oct.be8 c.id) ++ [c.side % 256]) ++ Oct.be8 c.amt) ++ c.h)), (21, (((((xs ++ Oct.be8 c.id) ++ [c.side % 256]) ++ Oct.be8 c.amt) ++ c.h) ++ Oct.be8 c.ex))] b xs = ((xs ++ Oct.be8 c.id) ++ [c.side % 256]) from by rw [show [(4, (xs ++ Oct.be8 c.id)), (9, ((xs ++ Oct.be8 c.id) ++ [c.side % 256])), (13, (((xs ++ Oct.be8 c.id) ++ [c.side % 256]) ++ Oct.be8 c.amt)), (17, ((((xs ++ Oct.be8 c.id) ++ [c.side % 256]) ++ Oct.be8 c.amt) ++ c.h)), (21, (((((xs ++ Oct.be8 c.id) ++ [c.side % 256]) ++ Oct.be8 c.amt) ++ c.h) ++ Oct.be8 c.ex))] = [(4, (xs ++ Oct.be8 c.id)), (9, ((xs ++ Oct.be8 c.id) ++ [c.side % 256]))] ++ (13, (((xs ++ Oct.be8 c.id) ++ [c.side % 256]) ++ Oct.be8 c.amt)) :: [(17, ((((xs ++ Oct.be8 c.id) ++ [c.side % 256]) ++ Oct.be8 c.amt) ++ c.h)), (21, (((((xs ++ Oct.be8 c.id) ++ [c.side % 256]) ++ Oct.be8 c.amt) ++ c.h) ++ Oct.be8 c.ex))] from rfl, Oct.curX_app, Oct.curX_none _ _ _ (by simp [hi, f17, f21])]; show (if b 9 = true then _ else _) = _; rw [if_pos e9]] at h
      exact h
    have hPX : Blk X gp 47 c.cells := (hG.up.block gp HLT.out HNE.out).trans HP.out
    refine step_call rfl 27 #[.tmp 14, .tmp 17] #[36, 96] rfl #[v 9, .slice (some ⟨g, 0, none⟩) 1 1] (by simp [q14, q17]) (by go_simp) (by have h := Oct.eight_any (v 9) (some ⟨g, 0, none⟩) 1 base ((xs ++ Oct.be8 c.id) ++ [c.side % 256]) [c.amt] X hown (rd_blk .u64 hg3) (by simp; exact HW.out.2.1) (by have h1 := HXS.out; have h2 := HOK.out.h; have h3 := be8_len8 c.id; have h4 := be8_len8 c.amt; have h5 := be8_len8 c.ex; simp only [List.length_append, List.length_singleton]; omega) (by have := hG.up.size; have := HBS.out; omega); rw [Oct.be8s_one] at h; exact h) ?_
    rintro e Y ⟨u, rfl, hO, hgr, hL⟩
    exact ⟨u, rfl, hK.out _ _ (hG.called (pre := [(4, (xs ++ Oct.be8 c.id)), (9, ((xs ++ Oct.be8 c.id) ++ [c.side % 256]))]) (post := [(17, ((((xs ++ Oct.be8 c.id) ++ [c.side % 256]) ++ Oct.be8 c.amt) ++ c.h)), (21, (((((xs ++ Oct.be8 c.id) ++ [c.side % 256]) ++ Oct.be8 c.amt) ++ c.h) ++ Oct.be8 c.ex))]) rfl hi rfl (by simp) (by simp [f17, f21]) hO (by rw [hcur]; exact hgr) (by rw [hcur]; exact hL))⟩
  · intro b v a X hA hi hd hC hG K hK
    have q3 : a.eval (.tmp 3) = .pointer (some ⟨gp, 0, none⟩) := hA.old 3 (by kernel_rfl)
    have hPX : Blk X gp 47 c.cells := (hG.up.block gp HLT.out HNE.out).trans HP.out
    have r3 := Oct.eval_getD q3
    refine step_val rfl (.pointer (some ⟨gp, 3, none⟩)) X (by unfold execOp; go_simp) (hK.out _ _ (hG.val rfl hi (by simp)))
  · intro b v a X hA hi hd hC hG K hK
    have e14 : b 14 = true := hd ⟨14, .data⟩ (by simp) rfl
    have q19 : a.eval (.tmp 19) = v 14 := hA.eval 19 14 rfl e14
    have u14 : v 14 = .pointer (some ⟨gp, 3, none⟩) := hG.each 14 e14
    rw [u14] at q19
    have hPX : Blk X gp 47 c.cells := (hG.up.block gp HLT.out HNE.out).trans HP.out
    have r19 := Oct.eval_getD q19
    refine step_val rfl (.agg (u8s c.h).toArray) X ((run_mid (ops := #[]) (a := a) (yieldsIf_load_mid (S := fun W => W.rangeAt gp 3 (u8s c.h)) rfl 45 (.tmp 19) rfl gp 3 q19 (u8s c.h) _ (fun _ h => h) Tryd.underlying45 rfl (by rw [u8s_length, HOK.out.h]; exact infoH)) X (cnd_hash HOK.out hPX))) (hK.out _ _ (hG.val rfl hi (by simp)))
  · intro b v a X hA hi hd hC hG K hK
    have e15 : b 15 = true := hd ⟨15, .data⟩ (by simp) rfl
    have q20 : a.eval (.tmp 20) = v 15 := hA.eval 20 15 rfl e15
    have u15 : v 15 = .agg (u8s c.h).toArray := hG.each 15 e15
    rw [u15] at q20
    refine step_lay rfl 68 1 #[(0, .tmp 20)] rfl #[(0, .agg (u8s c.h).toArray)] (by simp [q20]) (.slice (some ⟨X.heap.size, 0, none⟩) 1 1) (X.alloc (.cells (u8s c.h).toArray 52)) (Oct.build_sum c.h (by rw [Oct.byt, List.length_map]; exact HOK.out.h) X) (hK.out _ _ (hG.laid rfl hi (by simp)))
  · intro b v a X hA hi hd hC hG K hK
    have e13 : b 13 = true := hd ⟨13, .data⟩ (by simp) rfl
    have q18 : a.eval (.tmp 18) = v 13 := hA.eval 18 13 rfl e13
    have e16 : b 16 = true := hd ⟨16, .data⟩ (by simp) rfl
    have q21 : a.eval (.tmp 21) = v 16 := hA.eval 21 16 rfl e16
    have f21 : b 21 = false := by
      refine Bool.eq_false_iff.2 fun h => ?_
      have := hC 21 _ rfl h ⟨17, .data⟩ (by simp) rfl
      rw [hi] at this
      cases this
    obtain ⟨g, hg1, hg2, hg3, hg4⟩ := (hG.each 16 e16).resolve_left (by rw [hi]; simp)
    rw [hg1] at q21
    have hcur : Oct.cur [(4, (xs ++ Oct.be8 c.id)), (9, ((xs ++ Oct.be8 c.id) ++ [c.side % 256])), (13, (((xs ++ Oct.be8 c.id) ++ [c.side % 256]) ++ Oct.be8 c.amt))] b v v0 = v 13 := by show (if b 13 = true then v 13 else _) = _; rw [if_pos e13]
    have hown : Oct.Own X base (v 13) (((xs ++ Oct.be8 c.id) ++ [c.side % 256]) ++ Oct.be8 c.amt) := by
      have h := hG.own
      rw [show Oct.cur [(4, (xs ++ Oct.be8 c.id)), (9, ((xs ++ Oct.be8 c.id) ++ [c.side % 256])), (13, (((xs ++ Oct.be8 c.id) ++ [c.side % 256]) ++ Oct.be8 c.amt)), (17, ((((xs ++ Oct.be8 c.id) ++ [c.side % 256]) ++ Oct.be8 c.amt) ++ c.h)), (21, (((((xs ++ Oct.be8 c.id) ++ [c.side % 256]) ++ Oct.be8 c.amt) ++ c.h) ++ Oct.be8 c.ex))] b v v0 = v 13 from by rw [show [(4, (xs ++ Oct.be8 c.id)), (9, ((xs ++ Oct.be8 c.id) ++ [c.side % 256])), (13, (((xs ++ Oct.be8 c.id) ++ [c.side % 256]) ++ Oct.be8 c.amt)), (17, ((((xs ++ Oct.be8 c.id) ++ [c.side % 256]) ++ Oct.be8 c.amt) ++ c.h)), (21, (((((xs ++ Oct.be8 c.id) ++ [c.side % 256]) ++ Oct.be8 c.amt) ++ c.h) ++ Oct.be8 c.ex))] = [(4, (xs ++ Oct.be8 c.id)), (9, ((xs ++ Oct.be8 c.id) ++ [c.side % 256])), (13, (((xs ++ Oct.be8 c.id) ++ [c.side % 256]) ++ Oct.be8 c.amt))] ++ (17, ((((xs ++ Oct.be8 c.id) ++ [c.side % 256]) ++ Oct.be8 c.amt) ++ c.h)) :: [(21, (((((xs ++ Oct.be8 c.id) ++ [c.side % 256]) ++ Oct.be8 c.amt) ++ c.h) ++ Oct.be8 c.ex))] from rfl, Oct.cur_app, Oct.cur_none _ _ _ _ (by simp [hi, f21]), hcur], show Oct.curX [(4, (xs ++ Oct.be8 c.id)), (9, ((xs ++ Oct.be8 c.id) ++ [c.side % 256])), (13, (((xs ++ Oct.be8 c.id) ++ [c.side % 256]) ++ Oct.be8 c.amt)), (17, ((((xs ++ Oct.be8 c.id) ++ [c.side % 256]) ++ Oct.be8 c.amt) ++ c.h)), (21, (((((xs ++ Oct.be8 c.id) ++ [c.side % 256]) ++ Oct.be8 c.amt) ++ c.h) ++ Oct.be8 c.ex))] b xs = (((xs ++ Oct.be8 c.id) ++ [c.side % 256]) ++ Oct.be8 c.amt) from by rw [show [(4, (xs ++ Oct.be8 c.id)), (9, ((xs ++ Oct.be8 c.id) ++ [c.side % 256])), (13, (((xs ++ Oct.be8 c.id) ++ [c.side % 256]) ++ Oct.be8 c.amt)), (17, ((((xs ++ Oct.be8 c.id) ++ [c.side % 256]) ++ Oct.be8 c.amt) ++ c.h)), (21, (((((xs ++ Oct.be8 c.id) ++ [c.side % 256]) ++ Oct.be8 c.amt) ++ c.h) ++ Oct.be8 c.ex))] = [(4, (xs ++ Oct.be8 c.id)), (9, ((xs ++ Oct.be8 c.id) ++ [c.side % 256])), (13, (((xs ++ Oct.be8 c.id) ++ [c.side % 256]) ++ Oct.be8 c.amt))] ++ (17, ((((xs ++ Oct.be8 c.id) ++ [c.side % 256]) ++ Oct.be8 c.amt) ++ c.h)) :: [(21, (((((xs ++ Oct.be8 c.id) ++ [c.side % 256]) ++ Oct.be8 c.amt) ++ c.h) ++ Oct.be8 c.ex))] from rfl, Oct.curX_app, Oct.curX_none _ _ _ (by simp [hi, f21])]; show (if b 13 = true then _ else _) = _; rw [if_pos e13]] at h
      exact h
    have hPX : Blk X gp 47 c.cells := (hG.up.block gp HLT.out HNE.out).trans HP.out
    refine step_call rfl 47 #[.tmp 18, .tmp 21] #[36, 68] rfl #[v 13, .slice (some ⟨g, 0, none⟩) 1 1] (by simp [q18, q21]) (by go_simp) (Oct.outsum_one (v 13) g base (((xs ++ Oct.be8 c.id) ++ [c.side % 256]) ++ Oct.be8 c.amt) c.h X hown hg3 HOK.out.h (by have h1 := HXS.out; have h2 := HOK.out.h; have h3 := be8_len8 c.id; have h4 := be8_len8 c.amt; have h5 := be8_len8 c.ex; simp only [List.length_append, List.length_singleton]; omega) (by have := hG.up.size; have := HBS.out; omega)) ?_
    rintro e Y ⟨u, rfl, hO, hgr, hL⟩
    exact ⟨u, rfl, hK.out _ _ (hG.called (pre := [(4, (xs ++ Oct.be8 c.id)), (9, ((xs ++ Oct.be8 c.id) ++ [c.side % 256])), (13, (((xs ++ Oct.be8 c.id) ++ [c.side % 256]) ++ Oct.be8 c.amt))]) (post := [(21, (((((xs ++ Oct.be8 c.id) ++ [c.side % 256]) ++ Oct.be8 c.amt) ++ c.h) ++ Oct.be8 c.ex))]) rfl hi rfl (by simp) (by simp [f21]) hO (by rw [hcur]; exact hgr) (by rw [hcur]; exact hL))⟩
  · intro b v a X hA hi hd hC hG K hK
    have q3 : a.eval (.tmp 3) = .pointer (some ⟨gp, 0, none⟩) := hA.old 3 (by kernel_rfl)
    have hPX : Blk X gp 47 c.cells := (hG.up.block gp HLT.out HNE.out).trans HP.out
    have r3 := Oct.eval_getD q3
    refine step_val rfl (.pointer (some ⟨gp, 35, none⟩)) X (by unfold execOp; go_simp) (hK.out _ _ (hG.val rfl hi (by simp)))
  · intro b v a X hA hi hd hC hG K hK
    have e18 : b 18 = true := hd ⟨18, .data⟩ (by simp) rfl
    have q23 : a.eval (.tmp 23) = v 18 := hA.eval 23 18 rfl e18
    have u18 : v 18 = .pointer (some ⟨gp, 35, none⟩) := hG.each 18 e18
    rw [u18] at q23
    have hPX : Blk X gp 47 c.cells := (hG.up.block gp HLT.out HNE.out).trans HP.out
    have r23 := Oct.eval_getD q23
    refine step_val rfl (.int .u64 c.ex) X (by have k0 := (hPX.cell 35); rw [HOK.out.c35] at k0; unfold execOp; go_simp) (hK.out _ _ (hG.val rfl hi (by simp)))
  · intro b v a X hA hi hd hC hG K hK
    have e19 : b 19 = true := hd ⟨19, .data⟩ (by simp) rfl
    have q24 : a.eval (.tmp 24) = v 19 := hA.eval 24 19 rfl e19
    have u19 : v 19 = .int .u64 c.ex := hG.each 19 e19
    rw [u19] at q24
    refine step_lay rfl 96 1 #[(0, .tmp 24)] rfl #[(0, .int .u64 c.ex)] (by simp [q24]) (.slice (some ⟨X.heap.size, 0, none⟩) 1 1) (X.alloc (.cells [.int .u64 c.ex].toArray 23)) (by kernel_rfl) (hK.out _ _ (hG.laid rfl hi (by simp)))
  · intro b v a X hA hi hd hC hG K hK
    have e17 : b 17 = true := hd ⟨17, .data⟩ (by simp) rfl
    have q22 : a.eval (.tmp 22) = v 17 := hA.eval 22 17 rfl e17
    have e20 : b 20 = true := hd ⟨20, .data⟩ (by simp) rfl
    have q25 : a.eval (.tmp 25) = v 20 := hA.eval 25 20 rfl e20
    obtain ⟨g, hg1, hg2, hg3, hg4⟩ := (hG.each 20 e20).resolve_left (by rw [hi]; simp)
    rw [hg1] at q25
    have hcur : Oct.cur [(4, (xs ++ Oct.be8 c.id)), (9, ((xs ++ Oct.be8 c.id) ++ [c.side % 256])), (13, (((xs ++ Oct.be8 c.id) ++ [c.side % 256]) ++ Oct.be8 c.amt)), (17, ((((xs ++ Oct.be8 c.id) ++ [c.side % 256]) ++ Oct.be8 c.amt) ++ c.h))] b v v0 = v 17 := by show (if b 17 = true then v 17 else _) = _; rw [if_pos e17]
    have hown : Oct.Own X base (v 17) ((((xs ++ Oct.be8 c.id) ++ [c.side % 256]) ++ Oct.be8 c.amt) ++ c.h) := by
      have h := hG.own
      rw [show Oct.cur [(4, (xs ++ Oct.be8 c.id)), (9, ((xs ++ Oct.be8 c.id) ++ [c.side % 256])), (13, (((xs ++ Oct.be8 c.id) ++ [c.side % 256]) ++ Oct.be8 c.amt)), (17, ((((xs ++ Oct.be8 c.id) ++ [c.side % 256]) ++ Oct.be8 c.amt) ++ c.h)), (21, (((((xs ++ Oct.be8 c.id) ++ [c.side % 256]) ++ Oct.be8 c.amt) ++ c.h) ++ Oct.be8 c.ex))] b v v0 = v 17 from by rw [show [(4, (xs ++ Oct.be8 c.id)), (9, ((xs ++ Oct.be8 c.id) ++ [c.side % 256])), (13, (((xs ++ Oct.be8 c.id) ++ [c.side % 256]) ++ Oct.be8 c.amt)), (17, ((((xs ++ Oct.be8 c.id) ++ [c.side % 256]) ++ Oct.be8 c.amt) ++ c.h)), (21, (((((xs ++ Oct.be8 c.id) ++ [c.side % 256]) ++ Oct.be8 c.amt) ++ c.h) ++ Oct.be8 c.ex))] = [(4, (xs ++ Oct.be8 c.id)), (9, ((xs ++ Oct.be8 c.id) ++ [c.side % 256])), (13, (((xs ++ Oct.be8 c.id) ++ [c.side % 256]) ++ Oct.be8 c.amt)), (17, ((((xs ++ Oct.be8 c.id) ++ [c.side % 256]) ++ Oct.be8 c.amt) ++ c.h))] ++ (21, (((((xs ++ Oct.be8 c.id) ++ [c.side % 256]) ++ Oct.be8 c.amt) ++ c.h) ++ Oct.be8 c.ex)) :: [] from rfl, Oct.cur_app, Oct.cur_none _ _ _ _ (by simp [hi]), hcur], show Oct.curX [(4, (xs ++ Oct.be8 c.id)), (9, ((xs ++ Oct.be8 c.id) ++ [c.side % 256])), (13, (((xs ++ Oct.be8 c.id) ++ [c.side % 256]) ++ Oct.be8 c.amt)), (17, ((((xs ++ Oct.be8 c.id) ++ [c.side % 256]) ++ Oct.be8 c.amt) ++ c.h)), (21, (((((xs ++ Oct.be8 c.id) ++ [c.side % 256]) ++ Oct.be8 c.amt) ++ c.h) ++ Oct.be8 c.ex))] b xs = ((((xs ++ Oct.be8 c.id) ++ [c.side % 256]) ++ Oct.be8 c.amt) ++ c.h) from by rw [show [(4, (xs ++ Oct.be8 c.id)), (9, ((xs ++ Oct.be8 c.id) ++ [c.side % 256])), (13, (((xs ++ Oct.be8 c.id) ++ [c.side % 256]) ++ Oct.be8 c.amt)), (17, ((((xs ++ Oct.be8 c.id) ++ [c.side % 256]) ++ Oct.be8 c.amt) ++ c.h)), (21, (((((xs ++ Oct.be8 c.id) ++ [c.side % 256]) ++ Oct.be8 c.amt) ++ c.h) ++ Oct.be8 c.ex))] = [(4, (xs ++ Oct.be8 c.id)), (9, ((xs ++ Oct.be8 c.id) ++ [c.side % 256])), (13, (((xs ++ Oct.be8 c.id) ++ [c.side % 256]) ++ Oct.be8 c.amt)), (17, ((((xs ++ Oct.be8 c.id) ++ [c.side % 256]) ++ Oct.be8 c.amt) ++ c.h))] ++ (21, (((((xs ++ Oct.be8 c.id) ++ [c.side % 256]) ++ Oct.be8 c.amt) ++ c.h) ++ Oct.be8 c.ex)) :: [] from rfl, Oct.curX_app, Oct.curX_none _ _ _ (by simp [hi])]; show (if b 17 = true then _ else _) = _; rw [if_pos e17]] at h
      exact h
    have hPX : Blk X gp 47 c.cells := (hG.up.block gp HLT.out HNE.out).trans HP.out
    refine step_call rfl 27 #[.tmp 22, .tmp 25] #[36, 96] rfl #[v 17, .slice (some ⟨g, 0, none⟩) 1 1] (by simp [q22, q25]) (by go_simp) (by have h := Oct.eight_any (v 17) (some ⟨g, 0, none⟩) 1 base ((((xs ++ Oct.be8 c.id) ++ [c.side % 256]) ++ Oct.be8 c.amt) ++ c.h) [c.ex] X hown (rd_blk .u64 hg3) (by simp; exact HW.out.2.2) (by have h1 := HXS.out; have h2 := HOK.out.h; have h3 := be8_len8 c.id; have h4 := be8_len8 c.amt; have h5 := be8_len8 c.ex; simp only [List.length_append, List.length_singleton]; omega) (by have := hG.up.size; have := HBS.out; omega); rw [Oct.be8s_one] at h; exact h) ?_
    rintro e Y ⟨u, rfl, hO, hgr, hL⟩
    exact ⟨u, rfl, hK.out _ _ (hG.called (pre := [(4, (xs ++ Oct.be8 c.id)), (9, ((xs ++ Oct.be8 c.id) ++ [c.side % 256])), (13, (((xs ++ Oct.be8 c.id) ++ [c.side % 256]) ++ Oct.be8 c.amt)), (17, ((((xs ++ Oct.be8 c.id) ++ [c.side % 256]) ++ Oct.be8 c.amt) ++ c.h))]) (post := []) rfl hi rfl (by simp) (by simp) hO (by rw [hcur]; exact hgr) (by rw [hcur]; exact hL))⟩
  · intro b v a X hA hi hd hC hG K hK
    have e21 : b 21 = true := hd ⟨21, .data⟩ (by simp) rfl
    have q26 : a.eval (.tmp 26) = v 21 := hA.eval 26 21 rfl e21
    refine step_val rfl (v 21) X (by unfold execOp; simp only [q26, Sem.run_pure]) (hK.out _ _ (hG.mov rfl hi e21 (by simp)))
  · intro b v Y hall hG
    have hl : b 21 = true := hall 21 (by decide)
    have hcur : Oct.cur [(4, (xs ++ Oct.be8 c.id)), (9, ((xs ++ Oct.be8 c.id) ++ [c.side % 256])), (13, (((xs ++ Oct.be8 c.id) ++ [c.side % 256]) ++ Oct.be8 c.amt)), (17, ((((xs ++ Oct.be8 c.id) ++ [c.side % 256]) ++ Oct.be8 c.amt) ++ c.h)), (21, (((((xs ++ Oct.be8 c.id) ++ [c.side % 256]) ++ Oct.be8 c.amt) ++ c.h) ++ Oct.be8 c.ex))] b v v0 = v 21 := by show (if b 21 = true then v 21 else _) = _; rw [if_pos hl]
    have hcx : Oct.curX [(4, (xs ++ Oct.be8 c.id)), (9, ((xs ++ Oct.be8 c.id) ++ [c.side % 256])), (13, (((xs ++ Oct.be8 c.id) ++ [c.side % 256]) ++ Oct.be8 c.amt)), (17, ((((xs ++ Oct.be8 c.id) ++ [c.side % 256]) ++ Oct.be8 c.amt) ++ c.h)), (21, (((((xs ++ Oct.be8 c.id) ++ [c.side % 256]) ++ Oct.be8 c.amt) ++ c.h) ++ Oct.be8 c.ex))] b xs = (((((xs ++ Oct.be8 c.id) ++ [c.side % 256]) ++ Oct.be8 c.amt) ++ c.h) ++ Oct.be8 c.ex) := by show (if b 21 = true then _ else _) = _; rw [if_pos hl]
    have hown := hG.own
    have hlies := hG.lies
    have hup := hG.up
    rw [hcur, hcx] at hown
    rw [hcur] at hlies
    have z0 : v 0 = v0 := hG.each 0 (hall 0 (by decide))
    have z1 : v 1 = .pointer (some ⟨gp, 0, none⟩) := hG.each 1 (hall 1 (by decide))
    have z2 : v 2 = .int .u64 c.id := hG.each 2 (hall 2 (by decide))
    have z5 : v 5 = .pointer (some ⟨gp, 1, none⟩) := hG.each 5 (hall 5 (by decide))
    have z6 : v 6 = .int .i64 c.side := hG.each 6 (hall 6 (by decide))
    have z7 : v 7 = .int .u8 (c.side % 256) := hG.each 7 (hall 7 (by decide))
    have z10 : v 10 = .pointer (some ⟨gp, 2, none⟩) := hG.each 10 (hall 10 (by decide))
    have z11 : v 11 = .int .u64 c.amt := hG.each 11 (hall 11 (by decide))
    have z14 : v 14 = .pointer (some ⟨gp, 3, none⟩) := hG.each 14 (hall 14 (by decide))
    have z15 : v 15 = .agg (u8s c.h).toArray := hG.each 15 (hall 15 (by decide))
    have z18 : v 18 = .pointer (some ⟨gp, 35, none⟩) := hG.each 18 (hall 18 (by decide))
    have z19 : v 19 = .int .u64 c.ex := hG.each 19 (hall 19 (by decide))
    have z22 : v 22 = v 21 := (hG.each 22 (hall 22 (by decide))).2
    simp only [Dag.fullA, List.foldl_cons, List.foldl_nil, List.setIfInBounds_toArray, List.set_cons_zero, List.set_cons_succ]
    rw [z0, z1, z2, z5, z6, z7, z10, z11, z14, z15, z18, z19, z22]
    have HWN : Hid (Oct.Laid w base v0 (((((xs ++ Oct.be8 c.id) ++ [c.side % 256]) ++ Oct.be8 c.amt) ++ c.h) ++ Oct.be8 c.ex) (.returned (v 21)) Y) := Lib.hid (Oct.Laid.mk HBV.out hown hup hlies)
    generalize v 21 = vr at HWN ⊢
    clear hown hlies hup hcur
    go_wp2
    go_ret
    have h := HWN.out
    rw [show (((((xs ++ Oct.be8 c.id) ++ [c.side % 256]) ++ Oct.be8 c.amt) ++ c.h) ++ Oct.be8 c.ex) = xs ++ condL c by simp [condL]] at h
    exact h
end Go.Proofs.YtbdjlnejlkiijaaDoorRRR
