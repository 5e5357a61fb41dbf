/-
  deed.Lay (7): a state behind an Out.
-/
import Derived.Test.YtbdjlnejlkiijaaDoorRRRDeC
namespace Go.Proofs.YtbdjlnejlkiijaaDoorRRR
open Go.RowKit
set_option linter.unusedVariables false
set_option linter.unusedSimpArgs false

/-- A state's bytes. -/
def stH (ch rd m0 m1 t0 t1 : Int) : List Int := ((((Oct.be4 ch) ++ Oct.be8 rd) ++ (Oct.be8 m0 ++ Oct.be8 m1)) ++ (Oct.be8 t0 ++ Oct.be8 t1))
def stL (ch rd m0 m1 t0 t1 : Int) (cs : List Cnd) : List Int := stH ch rd m0 m1 t0 t1 ++ ([(cs.length : Int) % 256] ++ cs.flatMap condL)

theorem condL_len (c : Cnd) (h : c.Ok) : (condL c).length = 57 := by
  unfold condL
  simp [be8_len8, h.h]
theorem flat_len : ∀ (cs : List Cnd), (∀ c ∈ cs, c.Ok) → (cs.flatMap condL).length = cs.length * 57
  | [], _ => rfl
  | c :: cs, h => by
    rw [List.flatMap_cons, List.length_append, condL_len c (h c (by simp)), flat_len cs fun d hd => h d (by simp [hd]), List.length_cons]
    omega
set_option maxRecDepth 100000 in
set_option maxHeartbeats 8000000 in
theorem deedlay_any (ch rd m0 m1 t0 t1 : Int) (A : Option Addr) (n cap : Nat) (cs : List Cnd) (vO : Value) (base : Nat) (xs : List Int) (w : World) (HC : Hid (CRow w A cs)) (HL : Hid (cs.length = n)) (hn : n ≤ 1000) (HCW : Hid (∀ c ∈ cs, CndW c))
    (HWD : Hid ((0 ≤ ch ∧ ch ≤ 4294967295) ∧ (0 ≤ rd ∧ rd ≤ 18446744073709551615) ∧ (0 ≤ m0 ∧ m0 ≤ 18446744073709551615) ∧ (0 ≤ m1 ∧ m1 ≤ 18446744073709551615) ∧ (0 ≤ t0 ∧ t0 ≤ 18446744073709551615) ∧ (0 ≤ t1 ∧ t1 ≤ 18446744073709551615)))
    (HO : Hid (Oct.Own w base vO xs)) (HBS : Hid (base ≤ w.heap.size)) (HXS : Hid (xs.length ≤ 100000)) :
    Calls Tryd.prog 7 #[vO, .agg #[.int .u32 ch, .int .u64 rd, .int .u64 m0, .int .u64 m1, .int .u64 t0, .int .u64 t1, .slice A n cap]] w (Oct.Laid w base vO (xs ++ stL ch rd m0 m1 t0 t1 cs)) := by
  go_enter Tryd.func7, Tryd.ntmps7
  go_upto_region 1 with fail
  have HP : Hid (Blk (w.alloc (.cells #[.int .u32 ch, .int .u64 rd, .int .u64 m0, .int .u64 m1, .int .u64 t0, .int .u64 t1, .slice A n cap] 40)) w.heap.size 40 ([.int .u32 ch, .int .u64 rd, .int .u64 m0, .int .u64 m1, .int .u64 t0, .int .u64 t1, .slice A n cap])) := Lib.hid (by
    have h := Blk.new w 40 ([.int .u32 ch, .int .u64 rd, .int .u64 m0, .int .u64 m1, .int .u64 t0, .int .u64 t1, .slice A n cap])
    exact h)
  have HBV : Hid (Below w.heap.size w (w.alloc (.cells #[.int .u32 ch, .int .u64 rd, .int .u64 m0, .int .u64 m1, .int .u64 t0, .int .u64 t1, .slice A n cap] 40))) := Lib.hid ((Below.refl _ _).alloc (Nat.le_refl _) _)
  generalize (w.alloc (.cells #[.int .u32 ch, .int .u64 rd, .int .u64 m0, .int .u64 m1, .int .u64 t0, .int .u64 t1, .slice A n cap] 40)) = V at HP HBV ⊢
  have HLT := Lib.hid HP.out.lt
  have HGW : Hid (∀ g : Nat, w.heap.size = g → w.heap.size ≤ g) := Lib.hid fun g h => by omega
  obtain ⟨gp, hgp⟩ : ∃ x, w.heap.size = x := ⟨_, rfl⟩
  rw [hgp] at HP HLT ⊢
  have HGP := Lib.hid hgp
  clear hgp
  refine Dag.wp_region_dag (by kernel_rfl) [(5, 15), (8, 0), (9, 1), (10, 2), (11, 3), (12, 4), (13, 5), (14, 6), (15, 7), (16, 8), (17, 9), (18, 10), (19, 11), (20, 12), (21, 13), (22, 14)] (Oct.G V V.heap.size (.slice none 0 0) [] [(0, []), (4, (Oct.be4 ch)), (8, ((Oct.be4 ch) ++ Oct.be8 rd)), (11, (((Oct.be4 ch) ++ Oct.be8 rd) ++ (Oct.be8 m0 ++ Oct.be8 m1))), (14, ((((Oct.be4 ch) ++ Oct.be8 rd) ++ (Oct.be8 m0 ++ Oct.be8 m1)) ++ (Oct.be8 t0 ++ Oct.be8 t1)))] (fun k => ([.call, .const (.pointer (some ⟨gp, 0, none⟩)), .const (.int .u32 ch), .lay 22 1 [.int .u32 ch] 4, .call, .const (.pointer (some ⟨gp, 1, none⟩)), .const (.int .u64 rd), .lay 23 1 [.int .u64 rd] 8, .call, .const (.pointer (some ⟨gp, 2, none⟩)), .const (.slice (some ⟨gp, 2, none⟩) 2 2), .call, .const (.pointer (some ⟨gp, 4, none⟩)), .const (.slice (some ⟨gp, 4, none⟩) 2 2), .call, .move 14] : List Oct.Kind).getD k .call)) (by kernel_rfl) (by kernel_rfl) (Oct.G.start (Oct.Own.nil _ _)) (Dag.Each.cons ?_ (Dag.Each.cons ?_ (Dag.Each.cons ?_ (Dag.Each.cons ?_ (Dag.Each.cons ?_ (Dag.Each.cons ?_ (Dag.Each.cons ?_ (Dag.Each.cons ?_ (Dag.Each.cons ?_ (Dag.Each.cons ?_ (Dag.Each.cons ?_ (Dag.Each.cons ?_ (Dag.Each.cons ?_ (Dag.Each.cons ?_ (Dag.Each.cons ?_ (Dag.Each.cons ?_ (Dag.Each.nil _))))))))))))))))) ?_
  · intro b v a X hA hi hd hC hG K hK
    have f4 : b 4 = false := by
      refine Bool.eq_false_iff.2 fun h => ?_
      have := hC 4 _ rfl h ⟨0, .data⟩ (by simp) rfl
      rw [hi] at this
      cases this
    have f8 : b 8 = false := by
      refine Bool.eq_false_iff.2 fun h => ?_
      have := hC 8 _ rfl h ⟨4, .data⟩ (by simp) rfl
      rw [f4] at this
      cases this
    have f11 : b 11 = false := by
      refine Bool.eq_false_iff.2 fun h => ?_
      have := hC 11 _ rfl h ⟨8, .data⟩ (by simp) rfl
      rw [f8] at this
      cases this
    have f14 : b 14 = false := by
      refine Bool.eq_false_iff.2 fun h => ?_
      have := hC 14 _ rfl h ⟨11, .data⟩ (by simp) rfl
      rw [f11] at this
      cases this
    refine step_lay rfl 36 0 #[] rfl #[] (by simp) (.slice (some ⟨X.heap.size, 0, none⟩) 0 0) (X.alloc (.cells #[] 5)) (by kernel_rfl) (hK.out _ _ (hG.called (pre := []) (post := [(4, (Oct.be4 ch)), (8, ((Oct.be4 ch) ++ Oct.be8 rd)), (11, (((Oct.be4 ch) ++ Oct.be8 rd) ++ (Oct.be8 m0 ++ Oct.be8 m1))), (14, ((((Oct.be4 ch) ++ Oct.be8 rd) ++ (Oct.be8 m0 ++ Oct.be8 m1)) ++ (Oct.be8 t0 ++ Oct.be8 t1)))]) rfl hi rfl (by simp) (by simp [f4, f8, f11, f14]) (Oct.own_fresh hG.up.size) (Oct.Below.grownBy ((Below.refl _ _).alloc (Nat.le_refl _) _) _) (.inr ⟨X.heap.size, Nat.le_refl _, rfl⟩)))
  · intro b v a X hA hi hd hC hG K hK
    have q3 : a.eval (.tmp 3) = .pointer (some ⟨gp, 0, none⟩) := hA.old 3 (by kernel_rfl)
    have hPX : Blk X gp 40 [.int .u32 ch, .int .u64 rd, .int .u64 m0, .int .u64 m1, .int .u64 t0, .int .u64 t1, .slice A n cap] := (hG.up.block gp HLT.out (by simp [Value.ownBlock])).trans HP.out
    have r3 := Oct.eval_getD q3
    refine step_val rfl (.pointer (some ⟨gp, 0, none⟩)) X (by unfold execOp; go_simp) (hK.out _ _ (hG.val rfl hi (by simp)))
  · intro b v a X hA hi hd hC hG K hK
    have e1 : b 1 = true := hd ⟨1, .data⟩ (by simp) rfl
    have q9 : a.eval (.tmp 9) = v 1 := hA.eval 9 1 rfl e1
    have u1 : v 1 = .pointer (some ⟨gp, 0, none⟩) := hG.each 1 e1
    rw [u1] at q9
    have hPX : Blk X gp 40 [.int .u32 ch, .int .u64 rd, .int .u64 m0, .int .u64 m1, .int .u64 t0, .int .u64 t1, .slice A n cap] := (hG.up.block gp HLT.out (by simp [Value.ownBlock])).trans HP.out
    have r9 := Oct.eval_getD q9
    refine step_val rfl (.int .u32 ch) X (by have k0 := (hPX.cell 0); simp only [List.getElem?_cons_zero] at k0; unfold execOp; go_simp) (hK.out _ _ (hG.val rfl hi (by simp)))
  · intro b v a X hA hi hd hC hG K hK
    have e2 : b 2 = true := hd ⟨2, .data⟩ (by simp) rfl
    have q10 : a.eval (.tmp 10) = v 2 := hA.eval 10 2 rfl e2
    have u2 : v 2 = .int .u32 ch := hG.each 2 e2
    rw [u2] at q10
    refine step_lay rfl 118 1 #[(0, .tmp 10)] rfl #[(0, .int .u32 ch)] (by simp [q10]) (.slice (some ⟨X.heap.size, 0, none⟩) 1 1) (X.alloc (.cells [.int .u32 ch].toArray 22)) (by kernel_rfl) (hK.out _ _ (hG.laid rfl hi (by simp)))
  · intro b v a X hA hi hd hC hG K hK
    have e0 : b 0 = true := hd ⟨0, .data⟩ (by simp) rfl
    have q8 : a.eval (.tmp 8) = v 0 := hA.eval 8 0 rfl e0
    have e3 : b 3 = true := hd ⟨3, .data⟩ (by simp) rfl
    have q11 : a.eval (.tmp 11) = v 3 := hA.eval 11 3 rfl e3
    have f8 : b 8 = false := by
      refine Bool.eq_false_iff.2 fun h => ?_
      have := hC 8 _ rfl h ⟨4, .data⟩ (by simp) rfl
      rw [hi] at this
      cases this
    have f11 : b 11 = false := by
      refine Bool.eq_false_iff.2 fun h => ?_
      have := hC 11 _ rfl h ⟨8, .data⟩ (by simp) rfl
      rw [f8] at this
      cases this
    have f14 : b 14 = false := by
      refine Bool.eq_false_iff.2 fun h => ?_
      have := hC 14 _ rfl h ⟨11, .data⟩ (by simp) rfl
      rw [f11] at this
      cases this
    obtain ⟨g, hg1, hg2, hg3, hg4⟩ := (hG.each 3 e3).resolve_left (by rw [hi]; simp)
    rw [hg1] at q11
    have hcur : Oct.cur [(0, [])] b v (.slice none 0 0) = v 0 := by show (if b 0 = true then v 0 else _) = _; rw [if_pos e0]
    have hown : Oct.Own X V.heap.size (v 0) [] := by
      have h := hG.own
      rw [show Oct.cur [(0, []), (4, (Oct.be4 ch)), (8, ((Oct.be4 ch) ++ Oct.be8 rd)), (11, (((Oct.be4 ch) ++ Oct.be8 rd) ++ (Oct.be8 m0 ++ Oct.be8 m1))), (14, ((((Oct.be4 ch) ++ Oct.be8 rd) ++ (Oct.be8 m0 ++ Oct.be8 m1)) ++ (Oct.be8 t0 ++ Oct.be8 t1)))] b v (.slice none 0 0) = v 0 from by rw [show [(0, []), (4, (Oct.be4 ch)), (8, ((Oct.be4 ch) ++ Oct.be8 rd)), (11, (((Oct.be4 ch) ++ Oct.be8 rd) ++ (Oct.be8 m0 ++ Oct.be8 m1))), (14, ((((Oct.be4 ch) ++ Oct.be8 rd) ++ (Oct.be8 m0 ++ Oct.be8 m1)) ++ (Oct.be8 t0 ++ Oct.be8 t1)))] = [(0, [])] ++ (4, (Oct.be4 ch)) :: [(8, ((Oct.be4 ch) ++ Oct.be8 rd)), (11, (((Oct.be4 ch) ++ Oct.be8 rd) ++ (Oct.be8 m0 ++ Oct.be8 m1))), (14, ((((Oct.be4 ch) ++ Oct.be8 rd) ++ (Oct.be8 m0 ++ Oct.be8 m1)) ++ (Oct.be8 t0 ++ Oct.be8 t1)))] from rfl, Oct.cur_app, Oct.cur_none _ _ _ _ (by simp [hi, f8, f11, f14]), hcur], show Oct.curX [(0, []), (4, (Oct.be4 ch)), (8, ((Oct.be4 ch) ++ Oct.be8 rd)), (11, (((Oct.be4 ch) ++ Oct.be8 rd) ++ (Oct.be8 m0 ++ Oct.be8 m1))), (14, ((((Oct.be4 ch) ++ Oct.be8 rd) ++ (Oct.be8 m0 ++ Oct.be8 m1)) ++ (Oct.be8 t0 ++ Oct.be8 t1)))] b [] = [] from by rw [show [(0, []), (4, (Oct.be4 ch)), (8, ((Oct.be4 ch) ++ Oct.be8 rd)), (11, (((Oct.be4 ch) ++ Oct.be8 rd) ++ (Oct.be8 m0 ++ Oct.be8 m1))), (14, ((((Oct.be4 ch) ++ Oct.be8 rd) ++ (Oct.be8 m0 ++ Oct.be8 m1)) ++ (Oct.be8 t0 ++ Oct.be8 t1)))] = [(0, [])] ++ (4, (Oct.be4 ch)) :: [(8, ((Oct.be4 ch) ++ Oct.be8 rd)), (11, (((Oct.be4 ch) ++ Oct.be8 rd) ++ (Oct.be8 m0 ++ Oct.be8 m1))), (14, ((((Oct.be4 ch) ++ Oct.be8 rd) ++ (Oct.be8 m0 ++ Oct.be8 m1)) ++ (Oct.be8 t0 ++ Oct.be8 t1)))] from rfl, Oct.curX_app, Oct.curX_none _ _ _ (by simp [hi, f8, f11, f14])]; show (if b 0 = true then _ else _) = _; rw [if_pos e0]] at h
      exact h
    have hPX : Blk X gp 40 [.int .u32 ch, .int .u64 rd, .int .u64 m0, .int .u64 m1, .int .u64 t0, .int .u64 t1, .slice A n cap] := (hG.up.block gp HLT.out (by simp [Value.ownBlock])).trans HP.out
    refine step_call rfl 26 #[.tmp 8, .tmp 11] #[36, 118] rfl #[v 0, .slice (some ⟨g, 0, none⟩) 1 1] (by simp [q8, q11]) (by go_simp) (by have h := Oct.four_any (v 0) (some ⟨g, 0, none⟩) 1 V.heap.size [] [ch] X hown (rd_blk .u32 hg3) (by simp; exact HWD.out.1) (by simp) (hG.up.size); rw [Oct.be4s_one, List.nil_append] at h; exact h) ?_
    rintro e Y ⟨u, rfl, hO, hgr, hL⟩
    exact ⟨u, rfl, hK.out _ _ (hG.called (pre := [(0, [])]) (post := [(8, ((Oct.be4 ch) ++ Oct.be8 rd)), (11, (((Oct.be4 ch) ++ Oct.be8 rd) ++ (Oct.be8 m0 ++ Oct.be8 m1))), (14, ((((Oct.be4 ch) ++ Oct.be8 rd) ++ (Oct.be8 m0 ++ Oct.be8 m1)) ++ (Oct.be8 t0 ++ Oct.be8 t1)))]) rfl hi rfl (by simp) (by simp [f8, f11, f14]) hO (by rw [hcur]; exact hgr) (by rw [hcur]; exact hL))⟩
  · intro b v a X hA hi hd hC hG K hK
    have q3 : a.eval (.tmp 3) = .pointer (some ⟨gp, 0, none⟩) := hA.old 3 (by kernel_rfl)
    have hPX : Blk X gp 40 [.int .u32 ch, .int .u64 rd, .int .u64 m0, .int .u64 m1, .int .u64 t0, .int .u64 t1, .slice A n cap] := (hG.up.block gp HLT.out (by simp [Value.ownBlock])).trans HP.out
    have r3 := Oct.eval_getD q3
    refine step_val rfl (.pointer (some ⟨gp, 1, none⟩)) X (by unfold execOp; go_simp) (hK.out _ _ (hG.val rfl hi (by simp)))
  · intro b v a X hA hi hd hC hG K hK
    have e5 : b 5 = true := hd ⟨5, .data⟩ (by simp) rfl
    have q13 : a.eval (.tmp 13) = v 5 := hA.eval 13 5 rfl e5
    have u5 : v 5 = .pointer (some ⟨gp, 1, none⟩) := hG.each 5 e5
    rw [u5] at q13
    have hPX : Blk X gp 40 [.int .u32 ch, .int .u64 rd, .int .u64 m0, .int .u64 m1, .int .u64 t0, .int .u64 t1, .slice A n cap] := (hG.up.block gp HLT.out (by simp [Value.ownBlock])).trans HP.out
    have r13 := Oct.eval_getD q13
    refine step_val rfl (.int .u64 rd) X (by have k0 := (hPX.cell 1); simp only [List.getElem?_cons_zero, List.getElem?_cons_succ] at k0; unfold execOp; go_simp) (hK.out _ _ (hG.val rfl hi (by simp)))
  · intro b v a X hA hi hd hC hG K hK
    have e6 : b 6 = true := hd ⟨6, .data⟩ (by simp) rfl
    have q14 : a.eval (.tmp 14) = v 6 := hA.eval 14 6 rfl e6
    have u6 : v 6 = .int .u64 rd := hG.each 6 e6
    rw [u6] at q14
    refine step_lay rfl 96 1 #[(0, .tmp 14)] rfl #[(0, .int .u64 rd)] (by simp [q14]) (.slice (some ⟨X.heap.size, 0, none⟩) 1 1) (X.alloc (.cells [.int .u64 rd].toArray 23)) (by kernel_rfl) (hK.out _ _ (hG.laid rfl hi (by simp)))
  · intro b v a X hA hi hd hC hG K hK
    have e4 : b 4 = true := hd ⟨4, .data⟩ (by simp) rfl
    have q12 : a.eval (.tmp 12) = v 4 := hA.eval 12 4 rfl e4
    have e7 : b 7 = true := hd ⟨7, .data⟩ (by simp) rfl
    have q15 : a.eval (.tmp 15) = v 7 := hA.eval 15 7 rfl e7
    have f11 : b 11 = false := by
      refine Bool.eq_false_iff.2 fun h => ?_
      have := hC 11 _ rfl h ⟨8, .data⟩ (by simp) rfl
      rw [hi] at this
      cases this
    have f14 : b 14 = false := by
      refine Bool.eq_false_iff.2 fun h => ?_
      have := hC 14 _ rfl h ⟨11, .data⟩ (by simp) rfl
      rw [f11] at this
      cases this
    obtain ⟨g, hg1, hg2, hg3, hg4⟩ := (hG.each 7 e7).resolve_left (by rw [hi]; simp)
    rw [hg1] at q15
    have hcur : Oct.cur [(0, []), (4, (Oct.be4 ch))] b v (.slice none 0 0) = v 4 := by show (if b 4 = true then v 4 else _) = _; rw [if_pos e4]
    have hown : Oct.Own X V.heap.size (v 4) (Oct.be4 ch) := by
      have h := hG.own
      rw [show Oct.cur [(0, []), (4, (Oct.be4 ch)), (8, ((Oct.be4 ch) ++ Oct.be8 rd)), (11, (((Oct.be4 ch) ++ Oct.be8 rd) ++ (Oct.be8 m0 ++ Oct.be8 m1))), (14, ((((Oct.be4 ch) ++ Oct.be8 rd) ++ (Oct.be8 m0 ++ Oct.be8 m1)) ++ (Oct.be8 t0 ++ Oct.be8 t1)))] b v (.slice none 0 0) = v 4 from by rw [show [(0, []), (4, (Oct.be4 ch)), (8, ((Oct.be4 ch) ++ Oct.be8 rd)), (11, (((Oct.be4 ch) ++ Oct.be8 rd) ++ (Oct.be8 m0 ++ Oct.be8 m1))), (14, ((((Oct.be4 ch) ++ Oct.be8 rd) ++ (Oct.be8 m0 ++ Oct.be8 m1)) ++ (Oct.be8 t0 ++ Oct.be8 t1)))] = [(0, []), (4, (Oct.be4 ch))] ++ (8, ((Oct.be4 ch) ++ Oct.be8 rd)) :: [(11, (((Oct.be4 ch) ++ Oct.be8 rd) ++ (Oct.be8 m0 ++ Oct.be8 m1))), (14, ((((Oct.be4 ch) ++ Oct.be8 rd) ++ (Oct.be8 m0 ++ Oct.be8 m1)) ++ (Oct.be8 t0 ++ Oct.be8 t1)))] from rfl, Oct.cur_app, Oct.cur_none _ _ _ _ (by simp [hi, f11, f14]), hcur], show Oct.curX [(0, []), (4, (Oct.be4 ch)), (8, ((Oct.be4 ch) ++ Oct.be8 rd)), (11, (((Oct.be4 ch) ++ Oct.be8 rd) ++ (Oct.be8 m0 ++ Oct.be8 m1))), (14, ((((Oct.be4 ch) ++ Oct.be8 rd) ++ (Oct.be8 m0 ++ Oct.be8 m1)) ++ (Oct.be8 t0 ++ Oct.be8 t1)))] b [] = (Oct.be4 ch) from by rw [show [(0, []), (4, (Oct.be4 ch)), (8, ((Oct.be4 ch) ++ Oct.be8 rd)), (11, (((Oct.be4 ch) ++ Oct.be8 rd) ++ (Oct.be8 m0 ++ Oct.be8 m1))), (14, ((((Oct.be4 ch) ++ Oct.be8 rd) ++ (Oct.be8 m0 ++ Oct.be8 m1)) ++ (Oct.be8 t0 ++ Oct.be8 t1)))] = [(0, []), (4, (Oct.be4 ch))] ++ (8, ((Oct.be4 ch) ++ Oct.be8 rd)) :: [(11, (((Oct.be4 ch) ++ Oct.be8 rd) ++ (Oct.be8 m0 ++ Oct.be8 m1))), (14, ((((Oct.be4 ch) ++ Oct.be8 rd) ++ (Oct.be8 m0 ++ Oct.be8 m1)) ++ (Oct.be8 t0 ++ Oct.be8 t1)))] from rfl, Oct.curX_app, Oct.curX_none _ _ _ (by simp [hi, f11, f14])]; show (if b 4 = true then _ else _) = _; rw [if_pos e4]] at h
      exact h
    have hPX : Blk X gp 40 [.int .u32 ch, .int .u64 rd, .int .u64 m0, .int .u64 m1, .int .u64 t0, .int .u64 t1, .slice A n cap] := (hG.up.block gp HLT.out (by simp [Value.ownBlock])).trans HP.out
    refine step_call rfl 27 #[.tmp 12, .tmp 15] #[36, 96] rfl #[v 4, .slice (some ⟨g, 0, none⟩) 1 1] (by simp [q12, q15]) (by go_simp) (by have h := Oct.eight_any (v 4) (some ⟨g, 0, none⟩) 1 V.heap.size (Oct.be4 ch) [rd] X hown (rd_blk .u64 hg3) (by simp; exact HWD.out.2.1) (by have h0 := be4_len4 ch; have h1 := be8_len8 rd; have h2 := be8_len8 m0; have h3 := be8_len8 m1; have h4 := be8_len8 t0; have h5 := be8_len8 t1; simp only [List.length_append, List.length_cons, List.length_nil]; omega) (hG.up.size); rw [Oct.be8s_one] at h; exact h) ?_
    rintro e Y ⟨u, rfl, hO, hgr, hL⟩
    exact ⟨u, rfl, hK.out _ _ (hG.called (pre := [(0, []), (4, (Oct.be4 ch))]) (post := [(11, (((Oct.be4 ch) ++ Oct.be8 rd) ++ (Oct.be8 m0 ++ Oct.be8 m1))), (14, ((((Oct.be4 ch) ++ Oct.be8 rd) ++ (Oct.be8 m0 ++ Oct.be8 m1)) ++ (Oct.be8 t0 ++ Oct.be8 t1)))]) rfl hi rfl (by simp) (by simp [f11, f14]) hO (by rw [hcur]; exact hgr) (by rw [hcur]; exact hL))⟩
  · intro b v a X hA hi hd hC hG K hK
    have q3 : a.eval (.tmp 3) = .pointer (some ⟨gp, 0, none⟩) := hA.old 3 (by kernel_rfl)
    have hPX : Blk X gp 40 [.int .u32 ch, .int .u64 rd, .int .u64 m0, .int .u64 m1, .int .u64 t0, .int .u64 t1, .slice A n cap] := (hG.up.block gp HLT.out (by simp [Value.ownBlock])).trans HP.out
    have r3 := Oct.eval_getD q3
    refine step_val rfl (.pointer (some ⟨gp, 2, none⟩)) X (by unfold execOp; go_simp) (hK.out _ _ (hG.val rfl hi (by simp)))
  · intro b v a X hA hi hd hC hG K hK
    have e9 : b 9 = true := hd ⟨9, .data⟩ (by simp) rfl
    have q17 : a.eval (.tmp 17) = v 9 := hA.eval 17 9 rfl e9
    have u9 : v 9 = .pointer (some ⟨gp, 2, none⟩) := hG.each 9 e9
    rw [u9] at q17
    have hPX : Blk X gp 40 [.int .u32 ch, .int .u64 rd, .int .u64 m0, .int .u64 m1, .int .u64 t0, .int .u64 t1, .slice A n cap] := (hG.up.block gp HLT.out (by simp [Value.ownBlock])).trans HP.out
    have r17 := Oct.eval_getD q17
    refine step_val rfl (.slice (some ⟨gp, 2, none⟩) 2 2) X (by have k0 := slice24 gp 2 X; unfold execOp; go_simp) (hK.out _ _ (hG.val rfl hi (by simp)))
  · intro b v a X hA hi hd hC hG K hK
    have e8 : b 8 = true := hd ⟨8, .data⟩ (by simp) rfl
    have q16 : a.eval (.tmp 16) = v 8 := hA.eval 16 8 rfl e8
    have e10 : b 10 = true := hd ⟨10, .data⟩ (by simp) rfl
    have q18 : a.eval (.tmp 18) = v 10 := hA.eval 18 10 rfl e10
    have u10 : v 10 = .slice (some ⟨gp, 2, none⟩) 2 2 := hG.each 10 e10
    rw [u10] at q18
    have f14 : b 14 = false := by
      refine Bool.eq_false_iff.2 fun h => ?_
      have := hC 14 _ rfl h ⟨11, .data⟩ (by simp) rfl
      rw [hi] at this
      cases this
    have hcur : Oct.cur [(0, []), (4, (Oct.be4 ch)), (8, ((Oct.be4 ch) ++ Oct.be8 rd))] b v (.slice none 0 0) = v 8 := by show (if b 8 = true then v 8 else _) = _; rw [if_pos e8]
    have hown : Oct.Own X V.heap.size (v 8) ((Oct.be4 ch) ++ Oct.be8 rd) := by
      have h := hG.own
      rw [show Oct.cur [(0, []), (4, (Oct.be4 ch)), (8, ((Oct.be4 ch) ++ Oct.be8 rd)), (11, (((Oct.be4 ch) ++ Oct.be8 rd) ++ (Oct.be8 m0 ++ Oct.be8 m1))), (14, ((((Oct.be4 ch) ++ Oct.be8 rd) ++ (Oct.be8 m0 ++ Oct.be8 m1)) ++ (Oct.be8 t0 ++ Oct.be8 t1)))] b v (.slice none 0 0) = v 8 from by rw [show [(0, []), (4, (Oct.be4 ch)), (8, ((Oct.be4 ch) ++ Oct.be8 rd)), (11, (((Oct.be4 ch) ++ Oct.be8 rd) ++ (Oct.be8 m0 ++ Oct.be8 m1))), (14, ((((Oct.be4 ch) ++ Oct.be8 rd) ++ (Oct.be8 m0 ++ Oct.be8 m1)) ++ (Oct.be8 t0 ++ Oct.be8 t1)))] = [(0, []), (4, (Oct.be4 ch)), (8, ((Oct.be4 ch) ++ Oct.be8 rd))] ++ (11, (((Oct.be4 ch) ++ Oct.be8 rd) ++ (Oct.be8 m0 ++ Oct.be8 m1))) :: [(14, ((((Oct.be4 ch) ++ Oct.be8 rd) ++ (Oct.be8 m0 ++ Oct.be8 m1)) ++ (Oct.be8 t0 ++ Oct.be8 t1)))] from rfl, Oct.cur_app, Oct.cur_none _ _ _ _ (by simp [hi, f14]), hcur], show Oct.curX [(0, []), (4, (Oct.be4 ch)), (8, ((Oct.be4 ch) ++ Oct.be8 rd)), (11, (((Oct.be4 ch) ++ Oct.be8 rd) ++ (Oct.be8 m0 ++ Oct.be8 m1))), (14, ((((Oct.be4 ch) ++ Oct.be8 rd) ++ (Oct.be8 m0 ++ Oct.be8 m1)) ++ (Oct.be8 t0 ++ Oct.be8 t1)))] b [] = ((Oct.be4 ch) ++ Oct.be8 rd) from by rw [show [(0, []), (4, (Oct.be4 ch)), (8, ((Oct.be4 ch) ++ Oct.be8 rd)), (11, (((Oct.be4 ch) ++ Oct.be8 rd) ++ (Oct.be8 m0 ++ Oct.be8 m1))), (14, ((((Oct.be4 ch) ++ Oct.be8 rd) ++ (Oct.be8 m0 ++ Oct.be8 m1)) ++ (Oct.be8 t0 ++ Oct.be8 t1)))] = [(0, []), (4, (Oct.be4 ch)), (8, ((Oct.be4 ch) ++ Oct.be8 rd))] ++ (11, (((Oct.be4 ch) ++ Oct.be8 rd) ++ (Oct.be8 m0 ++ Oct.be8 m1))) :: [(14, ((((Oct.be4 ch) ++ Oct.be8 rd) ++ (Oct.be8 m0 ++ Oct.be8 m1)) ++ (Oct.be8 t0 ++ Oct.be8 t1)))] from rfl, Oct.curX_app, Oct.curX_none _ _ _ (by simp [hi, f14])]; show (if b 8 = true then _ else _) = _; rw [if_pos e8]] at h
      exact h
    have hPX : Blk X gp 40 [.int .u32 ch, .int .u64 rd, .int .u64 m0, .int .u64 m1, .int .u64 t0, .int .u64 t1, .slice A n cap] := (hG.up.block gp HLT.out (by simp [Value.ownBlock])).trans HP.out
    refine step_call rfl 27 #[.tmp 16, .tmp 18] #[36, 96] rfl #[v 8, .slice (some ⟨gp, 2, none⟩) 2 2] (by simp [q16, q18]) (by go_simp) (by have h := Oct.eight_any (v 8) (some ⟨gp, 2, none⟩) 2 V.heap.size ((Oct.be4 ch) ++ Oct.be8 rd) [m0, m1] X hown (rd_at .u64 (xs := [m0, m1]) hPX 2 (by intro i hi; match i, hi with | 0, _ => rfl | 1, _ => rfl)) (by intro y hy; simp at hy; rcases hy with rfl | rfl; exact HWD.out.2.2.1; exact HWD.out.2.2.2.1) (by have h0 := be4_len4 ch; have h1 := be8_len8 rd; have h2 := be8_len8 m0; have h3 := be8_len8 m1; have h4 := be8_len8 t0; have h5 := be8_len8 t1; simp only [List.length_append, List.length_cons, List.length_nil]; omega) (hG.up.size); rw [be8s_two] at h; exact h) ?_
    rintro e Y ⟨u, rfl, hO, hgr, hL⟩
    exact ⟨u, rfl, hK.out _ _ (hG.called (pre := [(0, []), (4, (Oct.be4 ch)), (8, ((Oct.be4 ch) ++ Oct.be8 rd))]) (post := [(14, ((((Oct.be4 ch) ++ Oct.be8 rd) ++ (Oct.be8 m0 ++ Oct.be8 m1)) ++ (Oct.be8 t0 ++ Oct.be8 t1)))]) rfl hi rfl (by simp) (by simp [f14]) hO (by rw [hcur]; exact hgr) (by rw [hcur]; exact hL))⟩
  · intro b v a X hA hi hd hC hG K hK
    have q3 : a.eval (.tmp 3) = .pointer (some ⟨gp, 0, none⟩) := hA.old 3 (by kernel_rfl)
    have hPX : Blk X gp 40 [.int .u32 ch, .int .u64 rd, .int .u64 m0, .int .u64 m1, .int .u64 t0, .int .u64 t1, .slice A n cap] := (hG.up.block gp HLT.out (by simp [Value.ownBlock])).trans HP.out
    have r3 := Oct.eval_getD q3
    refine step_val rfl (.pointer (some ⟨gp, 4, none⟩)) X (by unfold execOp; go_simp) (hK.out _ _ (hG.val rfl hi (by simp)))
  · intro b v a X hA hi hd hC hG K hK
    have e12 : b 12 = true := hd ⟨12, .data⟩ (by simp) rfl
    have q20 : a.eval (.tmp 20) = v 12 := hA.eval 20 12 rfl e12
    have u12 : v 12 = .pointer (some ⟨gp, 4, none⟩) := hG.each 12 e12
    rw [u12] at q20
    have hPX : Blk X gp 40 [.int .u32 ch, .int .u64 rd, .int .u64 m0, .int .u64 m1, .int .u64 t0, .int .u64 t1, .slice A n cap] := (hG.up.block gp HLT.out (by simp [Value.ownBlock])).trans HP.out
    have r20 := Oct.eval_getD q20
    refine step_val rfl (.slice (some ⟨gp, 4, none⟩) 2 2) X (by have k0 := slice24 gp 4 X; unfold execOp; go_simp) (hK.out _ _ (hG.val rfl hi (by simp)))
  · intro b v a X hA hi hd hC hG K hK
    have e11 : b 11 = true := hd ⟨11, .data⟩ (by simp) rfl
    have q19 : a.eval (.tmp 19) = v 11 := hA.eval 19 11 rfl e11
    have e13 : b 13 = true := hd ⟨13, .data⟩ (by simp) rfl
    have q21 : a.eval (.tmp 21) = v 13 := hA.eval 21 13 rfl e13
    have u13 : v 13 = .slice (some ⟨gp, 4, none⟩) 2 2 := hG.each 13 e13
    rw [u13] at q21
    have hcur : Oct.cur [(0, []), (4, (Oct.be4 ch)), (8, ((Oct.be4 ch) ++ Oct.be8 rd)), (11, (((Oct.be4 ch) ++ Oct.be8 rd) ++ (Oct.be8 m0 ++ Oct.be8 m1)))] b v (.slice none 0 0) = v 11 := by show (if b 11 = true then v 11 else _) = _; rw [if_pos e11]
    have hown : Oct.Own X V.heap.size (v 11) (((Oct.be4 ch) ++ Oct.be8 rd) ++ (Oct.be8 m0 ++ Oct.be8 m1)) := by
      have h := hG.own
      rw [show Oct.cur [(0, []), (4, (Oct.be4 ch)), (8, ((Oct.be4 ch) ++ Oct.be8 rd)), (11, (((Oct.be4 ch) ++ Oct.be8 rd) ++ (Oct.be8 m0 ++ Oct.be8 m1))), (14, ((((Oct.be4 ch) ++ Oct.be8 rd) ++ (Oct.be8 m0 ++ Oct.be8 m1)) ++ (Oct.be8 t0 ++ Oct.be8 t1)))] b v (.slice none 0 0) = v 11 from by rw [show [(0, []), (4, (Oct.be4 ch)), (8, ((Oct.be4 ch) ++ Oct.be8 rd)), (11, (((Oct.be4 ch) ++ Oct.be8 rd) ++ (Oct.be8 m0 ++ Oct.be8 m1))), (14, ((((Oct.be4 ch) ++ Oct.be8 rd) ++ (Oct.be8 m0 ++ Oct.be8 m1)) ++ (Oct.be8 t0 ++ Oct.be8 t1)))] = [(0, []), (4, (Oct.be4 ch)), (8, ((Oct.be4 ch) ++ Oct.be8 rd)), (11, (((Oct.be4 ch) ++ Oct.be8 rd) ++ (Oct.be8 m0 ++ Oct.be8 m1)))] ++ (14, ((((Oct.be4 ch) ++ Oct.be8 rd) ++ (Oct.be8 m0 ++ Oct.be8 m1)) ++ (Oct.be8 t0 ++ Oct.be8 t1))) :: [] from rfl, Oct.cur_app, Oct.cur_none _ _ _ _ (by simp [hi]), hcur], show Oct.curX [(0, []), (4, (Oct.be4 ch)), (8, ((Oct.be4 ch) ++ Oct.be8 rd)), (11, (((Oct.be4 ch) ++ Oct.be8 rd) ++ (Oct.be8 m0 ++ Oct.be8 m1))), (14, ((((Oct.be4 ch) ++ Oct.be8 rd) ++ (Oct.be8 m0 ++ Oct.be8 m1)) ++ (Oct.be8 t0 ++ Oct.be8 t1)))] b [] = (((Oct.be4 ch) ++ Oct.be8 rd) ++ (Oct.be8 m0 ++ Oct.be8 m1)) from by rw [show [(0, []), (4, (Oct.be4 ch)), (8, ((Oct.be4 ch) ++ Oct.be8 rd)), (11, (((Oct.be4 ch) ++ Oct.be8 rd) ++ (Oct.be8 m0 ++ Oct.be8 m1))), (14, ((((Oct.be4 ch) ++ Oct.be8 rd) ++ (Oct.be8 m0 ++ Oct.be8 m1)) ++ (Oct.be8 t0 ++ Oct.be8 t1)))] = [(0, []), (4, (Oct.be4 ch)), (8, ((Oct.be4 ch) ++ Oct.be8 rd)), (11, (((Oct.be4 ch) ++ Oct.be8 rd) ++ (Oct.be8 m0 ++ Oct.be8 m1)))] ++ (14, ((((Oct.be4 ch) ++ Oct.be8 rd) ++ (Oct.be8 m0 ++ Oct.be8 m1)) ++ (Oct.be8 t0 ++ Oct.be8 t1))) :: [] from rfl, Oct.curX_app, Oct.curX_none _ _ _ (by simp [hi])]; show (if b 11 = true then _ else _) = _; rw [if_pos e11]] at h
      exact h
    have hPX : Blk X gp 40 [.int .u32 ch, .int .u64 rd, .int .u64 m0, .int .u64 m1, .int .u64 t0, .int .u64 t1, .slice A n cap] := (hG.up.block gp HLT.out (by simp [Value.ownBlock])).trans HP.out
    refine step_call rfl 27 #[.tmp 19, .tmp 21] #[36, 96] rfl #[v 11, .slice (some ⟨gp, 4, none⟩) 2 2] (by simp [q19, q21]) (by go_simp) (by have h := Oct.eight_any (v 11) (some ⟨gp, 4, none⟩) 2 V.heap.size (((Oct.be4 ch) ++ Oct.be8 rd) ++ (Oct.be8 m0 ++ Oct.be8 m1)) [t0, t1] X hown (rd_at .u64 (xs := [t0, t1]) hPX 4 (by intro i hi; match i, hi with | 0, _ => rfl | 1, _ => rfl)) (by intro y hy; simp at hy; rcases hy with rfl | rfl; exact HWD.out.2.2.2.2.1; exact HWD.out.2.2.2.2.2) (by have h0 := be4_len4 ch; have h1 := be8_len8 rd; have h2 := be8_len8 m0; have h3 := be8_len8 m1; have h4 := be8_len8 t0; have h5 := be8_len8 t1; simp only [List.length_append, List.length_cons, List.length_nil]; omega) (hG.up.size); rw [be8s_two] at h; exact h) ?_
    rintro e Y ⟨u, rfl, hO, hgr, hL⟩
    exact ⟨u, rfl, hK.out _ _ (hG.called (pre := [(0, []), (4, (Oct.be4 ch)), (8, ((Oct.be4 ch) ++ Oct.be8 rd)), (11, (((Oct.be4 ch) ++ Oct.be8 rd) ++ (Oct.be8 m0 ++ Oct.be8 m1)))]) (post := []) rfl hi rfl (by simp) (by simp) hO (by rw [hcur]; exact hgr) (by rw [hcur]; exact hL))⟩
  · intro b v a X hA hi hd hC hG K hK
    have e14 : b 14 = true := hd ⟨14, .data⟩ (by simp) rfl
    have q22 : a.eval (.tmp 22) = v 14 := hA.eval 22 14 rfl e14
    refine step_val rfl (v 14) X (by unfold execOp; simp only [q22, Sem.run_pure]) (hK.out _ _ (hG.mov rfl hi e14 (by simp)))
  · intro b v Y hall hG
    have hl : b 14 = true := hall 14 (by decide)
    have hcur : Oct.cur [(0, []), (4, (Oct.be4 ch)), (8, ((Oct.be4 ch) ++ Oct.be8 rd)), (11, (((Oct.be4 ch) ++ Oct.be8 rd) ++ (Oct.be8 m0 ++ Oct.be8 m1))), (14, ((((Oct.be4 ch) ++ Oct.be8 rd) ++ (Oct.be8 m0 ++ Oct.be8 m1)) ++ (Oct.be8 t0 ++ Oct.be8 t1)))] b v (.slice none 0 0) = v 14 := by show (if b 14 = true then v 14 else _) = _; rw [if_pos hl]
    have hcx : Oct.curX [(0, []), (4, (Oct.be4 ch)), (8, ((Oct.be4 ch) ++ Oct.be8 rd)), (11, (((Oct.be4 ch) ++ Oct.be8 rd) ++ (Oct.be8 m0 ++ Oct.be8 m1))), (14, ((((Oct.be4 ch) ++ Oct.be8 rd) ++ (Oct.be8 m0 ++ Oct.be8 m1)) ++ (Oct.be8 t0 ++ Oct.be8 t1)))] b [] = ((((Oct.be4 ch) ++ Oct.be8 rd) ++ (Oct.be8 m0 ++ Oct.be8 m1)) ++ (Oct.be8 t0 ++ Oct.be8 t1)) := by show (if b 14 = true then _ else _) = _; rw [if_pos hl]
    have hown := hG.own
    have hlies := hG.lies
    have hup := hG.up
    rw [hcur, hcx] at hown
    rw [hcur] at hlies
    have z1 : v 1 = .pointer (some ⟨gp, 0, none⟩) := hG.each 1 (hall 1 (by decide))
    have z2 : v 2 = .int .u32 ch := hG.each 2 (hall 2 (by decide))
    have z5 : v 5 = .pointer (some ⟨gp, 1, none⟩) := hG.each 5 (hall 5 (by decide))
    have z6 : v 6 = .int .u64 rd := hG.each 6 (hall 6 (by decide))
    have z9 : v 9 = .pointer (some ⟨gp, 2, none⟩) := hG.each 9 (hall 9 (by decide))
    have z10 : v 10 = .slice (some ⟨gp, 2, none⟩) 2 2 := hG.each 10 (hall 10 (by decide))
    have z12 : v 12 = .pointer (some ⟨gp, 4, none⟩) := hG.each 12 (hall 12 (by decide))
    have z13 : v 13 = .slice (some ⟨gp, 4, none⟩) 2 2 := hG.each 13 (hall 13 (by decide))
    have z15 : v 15 = v 14 := (hG.each 15 (hall 15 (by decide))).2
    simp only [Dag.fullA, List.foldl_cons, List.foldl_nil, List.setIfInBounds_toArray, List.set_cons_zero, List.set_cons_succ]
    rw [z1, z2, z5, z6, z9, z10, z12, z13, z15]
    have HPY : Hid (Blk Y gp 40 [.int .u32 ch, .int .u64 rd, .int .u64 m0, .int .u64 m1, .int .u64 t0, .int .u64 t1, .slice A n cap]) := Lib.hid ((hup.block gp HLT.out (by simp [Value.ownBlock])).trans HP.out)
    have HBY : Hid (Below w.heap.size w Y) := Lib.hid (HBV.out.trans (Oct.grown_below hup HBV.out.size (by simp [Value.ownBlock])))
    have HOY : Hid (Oct.Own Y V.heap.size (v 14) ((((Oct.be4 ch) ++ Oct.be8 rd) ++ (Oct.be8 m0 ++ Oct.be8 m1)) ++ (Oct.be8 t0 ++ Oct.be8 t1))) := Lib.hid hown
    have HVY : Hid (V.heap.size ≤ Y.heap.size) := Lib.hid hup.size
    generalize v 14 = v5 at HOY ⊢
    clear hown hlies hup hcur hcx
    obtain ⟨H4, hH4⟩ : ∃ x, ((((Oct.be4 ch) ++ Oct.be8 rd) ++ (Oct.be8 m0 ++ Oct.be8 m1)) ++ (Oct.be8 t0 ++ Oct.be8 t1)) = x := ⟨_, rfl⟩
    have HH4 : Hid (H4.length = 44) := Lib.hid (by rw [← hH4]; have h0 := be4_len4 ch; have h1 := be8_len8 rd; have h2 := be8_len8 m0; have h3 := be8_len8 m1; have h4 := be8_len8 t0; have h5 := be8_len8 t1; simp only [List.length_append]; omega)
    have HH := Lib.hid hH4
    rw [hH4] at HOY
    clear hH4
    have c4 : Y.cell? ⟨gp, 4 + 2, none⟩ = some (.slice A n cap) := by rw [HPY.out.cell]; rfl
    have c6 : Y.cell? ⟨gp, 6, none⟩ = some (.slice A n cap) := by rw [HPY.out.cell]; rfl
    have hu8 : IntKind.u8.wrap (n : Int) = (n : Int) % 256 := by rw [IntKind.wrap_u8]
    have HVB : Hid (w.heap.size ≤ V.heap.size) := Lib.hid HBV.out.size
    go_wp2_with fail
    refine (Oct.one_any v5 (some ⟨Y.heap.size, 0, none⟩) 1 V.heap.size H4 [(n : Int) % 256] (Y.alloc (.cells #[.int .u8 ((n : Int) % 256)] 5)) (Oct.Own.below HOY.out ((Below.refl _ _).alloc (Nat.le_refl _) _)) (Oct.Src.one _ _) (by rw [HH4.out]; simp) (by have := HBY.out.size; have := (World.ownsRow.lt HOY.out); have h9 := HVY.out; simp; omega)).mono ?_
    rintro e Z ⟨v6, rfl, hO, hg, hL⟩
    have hB1 : Below Y.heap.size Y (Y.alloc (.cells #[.int .u8 ((n : Int) % 256)] 5)) := (Below.refl _ _).alloc (Nat.le_refl _) _
    have HOZ := Lib.hid hO
    have HPZ : Hid (Blk Z gp 40 [.int .u32 ch, .int .u64 rd, .int .u64 m0, .int .u64 m1, .int .u64 t0, .int .u64 t1, .slice A n cap]) := Lib.hid ((HPY.out.below hB1 HPY.out.lt).grown hg (fun e => by have := (World.ownsRow.lt HOY.out gp e.symm).1; have := HLT.out; omega))
    have HBZ : Hid (Below w.heap.size w Z) := Lib.hid ((HBY.out.trans (hB1.mono HBY.out.size)).grown hg (by have := HBY.out.size; simp; omega) (fun g h => by have := (World.ownsRow.lt HOY.out g h).1; have := HVB.out; omega))
    have HVZ : Hid (V.heap.size ≤ Z.heap.size) := Lib.hid (by have := hg.size; have := HVY.out; simp at *; omega)
    obtain ⟨H5, hH5⟩ : ∃ x, H4 ++ [(n : Int) % 256] = x := ⟨_, rfl⟩
    have HH5 := Lib.hid hH5
    rw [hH5] at HOZ
    have HL5 : Hid (H5.length = 45) := Lib.hid (by rw [← hH5, List.length_append, HH4.out]; rfl)
    clear hO hg hL hB1 hH5 HOY HPY HBY HVY HH4 c4 c6 hu8 z1 z2 z5 z6 z9 z10 z12 z13 z15
    have c4 : Z.cell? ⟨gp, 4 + 2, none⟩ = some (.slice A n cap) := by rw [HPZ.out.cell]; rfl
    have c6 : Z.cell? ⟨gp, 6, none⟩ = some (.slice A n cap) := by rw [HPZ.out.cell]; rfl
    go_wp2_with fail
    clear c4 c6
    go_loopw [5, 7, 33] (fun q _ i wr => ∃ k : Nat, i = .int .i64 k ∧ k ≤ n ∧ Hid (Oct.Own wr V.heap.size q (H5 ++ (cs.take k).flatMap condL)) ∧ Hid (Below w.heap.size w wr) ∧ Hid (V.heap.size ≤ wr.heap.size)) (fun _ _ i _ => n - (intOf i).toNat)
    case atStart => exact ⟨0, rfl, Nat.zero_le _, Lib.hid (by simpa using HOZ.out), HBZ, HVZ⟩
    case round =>
      clear HOZ HBZ HVZ HPZ
      obtain ⟨k, rfl, hk, HOK, HB, HVW⟩ := hrel
      by_cases hlt : k < n
      · have hk' : k < cs.length := by rw [HL.out]; exact hlt
        obtain ⟨b, o, c, rfl, hb, hc, hr, hok⟩ := HC.out.get hk'
        have HCO := Lib.hid hok
        have HCC : Hid (CndW c) := Lib.hid (by rw [← hc]; exact HCW.out _ (getD_mem hk'))
        have HFM : Hid ((cs.take (k + 1)).flatMap condL = (cs.take k).flatMap condL ++ condL c) := Lib.hid (by
          have e : cs[k] = c := by rw [← hc]; simp [List.getD, hk']
          rw [List.take_succ_eq_append_getElem hk', List.flatMap_append, e]
          simp)
        have HKL : Hid ((H5 ++ (cs.take k).flatMap condL).length ≤ 60000) := Lib.hid (by rw [List.length_append, HL5.out]; have := flat_len (cs.take k) (fun c hc => HC.out.ok c (List.mem_of_mem_take hc)); rw [this, List.length_take]; omega)
        have RG := range_below hr HB.out hb
        clear hc hr hb
        have hz1 : (Tryd.prog.info? 47).map (·.size) = some c.cells.toArray.size := by rw [hok.size]; exact info60
        have hz2 : (Tryd.prog.info? 47).map (·.size) = some c.cells.length := by rw [hok.len]; exact info60
        have hz3 : (#[.int .u64 0, .int .i64 0, .int .u64 0, .int .u8 0, .int .u8 0, .int .u8 0, .int .u8 0, .int .u8 0, .int .u8 0, .int .u8 0, .int .u8 0, .int .u8 0, .int .u8 0, .int .u8 0, .int .u8 0, .int .u8 0, .int .u8 0, .int .u8 0, .int .u8 0, .int .u8 0, .int .u8 0, .int .u8 0, .int .u8 0, .int .u8 0, .int .u8 0, .int .u8 0, .int .u8 0, .int .u8 0, .int .u8 0, .int .u8 0, .int .u8 0, .int .u8 0, .int .u8 0, .int .u8 0, .int .u8 0, .int .u64 0] : Array Value).size = c.cells.toArray.size := by rw [hok.size]; rfl
        have hco := c.all_one
        have HLA := heap_alloc_last wr (.cells #[.int .u64 0, .int .i64 0, .int .u64 0, .int .u8 0, .int .u8 0, .int .u8 0, .int .u8 0, .int .u8 0, .int .u8 0, .int .u8 0, .int .u8 0, .int .u8 0, .int .u8 0, .int .u8 0, .int .u8 0, .int .u8 0, .int .u8 0, .int .u8 0, .int .u8 0, .int .u8 0, .int .u8 0, .int .u8 0, .int .u8 0, .int .u8 0, .int .u8 0, .int .u8 0, .int .u8 0, .int .u8 0, .int .u8 0, .int .u8 0, .int .u8 0, .int .u8 0, .int .u8 0, .int .u8 0, .int .u8 0, .int .u64 0] 47)
        go_upto_region 6 with (first | (refine wpList_load_mid rfl 47 (.tmp 35) rfl b (o + k * 36) rfl c.cells _ RG Tryd.underlying47 rfl hz2 ?_) | (refine wpList_store_row rfl 47 (.tmp 7) (.tmp 36) rfl wr.heap.size c.cells.toArray rfl rfl 47 _ HLA hz1 hz3 hco ?_; rw [World.setRow_alloc_new]) | fail)
        have hD := Lib.hid (Blk.new wr 47 c.cells)
        have hB1 : Below wr.heap.size wr (wr.alloc (.cells c.cells.toArray 47)) := (Below.refl _ _).alloc (Nat.le_refl _) _
        have HO1 := Lib.hid (Oct.Own.below HOK.out hB1)
        have HB2 : Hid (Below w.heap.size w (wr.alloc (.cells c.cells.toArray 47))) := Lib.hid (HB.out.trans (hB1.mono HB.out.size))
        have HV2 : Hid (V.heap.size ≤ (wr.alloc (.cells c.cells.toArray 47)).heap.size) := Lib.hid (Nat.le_trans HVW.out hB1.size)
        have HAR : Hid ((wr.alloc (.cells c.cells.toArray 47)).rangeAt wr.heap.size 0 c.cells) := Lib.hid hD.out.all
        clear RG hz1 hz3 hco HLA hB1 HOK HB HVW hD
        generalize wr.alloc (.cells c.cells.toArray 47) = U at HO1 HB2 HV2 HAR ⊢
        generalize wr.heap.size = gc at HAR ⊢
        go_wp2_with (first | (refine wpList_load_mid rfl 47 (.tmp 7) rfl gc 0 rfl c.cells _ HAR.out Tryd.underlying47 rfl hz2 ?_))
        refine (laycond_any c _ V.heap.size _ U HCO HCC HO1 HV2 (Lib.hid (by have := HKL.out; omega))).mono ?_
        rintro e U2 ⟨v7, rfl, hO, hg, hL⟩
        have HO3 : Hid (Oct.Own U2 V.heap.size v7 (H5 ++ (cs.take (k + 1)).flatMap condL)) := Lib.hid (by rw [HFM.out, ← List.append_assoc]; exact hO)
        have HB3 : Hid (Below w.heap.size w U2) := Lib.hid (HB2.out.grown hg HB2.out.size (fun g h => by have := (World.ownsRow.lt HO1.out g h).1; have := HVB.out; omega))
        have HV3 : Hid (V.heap.size ≤ U2.heap.size) := Lib.hid (Nat.le_trans HV2.out hg.size)
        clear hO hg hL HO1 HB2 HV2 HAR hz2
        go_wp2_with fail
        first | exact ⟨⟨k + 1, by go_num, by omega, HO3, HB3, HV3⟩, by simp [intOf] <;> omega⟩ | (go_roundw; case rel => exact ⟨k + 1, by go_num, by omega, HO3, HB3, HV3⟩; case measure => simp [intOf] <;> omega)
      · obtain rfl : k = n := by omega
        have HOE : Hid (Oct.Own wr V.heap.size u5 (stL ch rd m0 m1 t0 t1 cs)) := Lib.hid (by
          have h := HOK.out
          rw [List.take_of_length_le (by rw [HL.out]; exact Nat.le_refl _), ← HH5.out, ← HH.out, List.append_assoc] at h
          unfold stL stH
          rw [HL.out]
          exact h)
        have HSL : Hid ((stL ch rd m0 m1 t0 t1 cs).length ≤ 60000) := Lib.hid (by
          have h1 := flat_len cs HC.out.ok
          have h2 := HL5.out
          rw [← HH5.out, ← HH.out] at h2
          unfold stL stH
          simp only [List.length_append, List.length_singleton] at h1 h2 ⊢
          have := HL.out
          omega)
        have HOW : Hid (Oct.Own wr base vO xs) := Lib.hid (Oct.Own.below HO.out (HB.out))
        obtain ⟨A5, c5, hv5, hs5⟩ := Oct.Own.src HOE.out
        have HS5 := Lib.hid hs5
        have HBW : Hid (base ≤ wr.heap.size) := Lib.hid (Nat.le_trans HBS.out HB.out.size)
        subst hv5
        clear hs5 HOK HOE HVW
        generalize hln : (stL ch rd m0 m1 t0 t1 cs).length = ln at HSL ⊢
        have HLN := Lib.hid hln
        clear hln
        go_wp2_with fail
        have h9 := Oct.one_any vO A5 c5 base xs (stL ch rd m0 m1 t0 t1 cs) wr HOW.out HS5.out (by have := HSL.out; have := HXS.out; rw [HLN.out]; omega) HBW.out
        rw [HLN.out] at h9
        refine h9.mono ?_
        rintro e Z9 hZ
        obtain ⟨v9, rfl, hO, hg, hL⟩ := hZ
        have HF : Hid (Oct.Laid w base vO (xs ++ stL ch rd m0 m1 t0 t1 cs) (.returned v9) Z9) := Lib.hid (Oct.Laid.mk HB.out hO hg hL)
        clear hO hg hL h9
        go_wp2_with fail
        go_ret
        exact HF.out
end Go.Proofs.YtbdjlnejlkiijaaDoorRRR
