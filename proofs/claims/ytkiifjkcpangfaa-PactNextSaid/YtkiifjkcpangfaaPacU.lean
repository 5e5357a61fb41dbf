/-
  The document's: whether a side can spend an amount; the next state where there is none for want of a right state, a round, or the turn.
-/
import Derived.Test.YtkiifjkcpangfaaPacX
namespace Go.Proofs.Ytkiifjkcpangfaa
open Go.RowKit
set_option linter.unusedVariables false


set_option maxRecDepth 100000 in
set_option maxHeartbeats 4000000 in
theorem room_any (s : St) (a : Option Addr) (n cap : Nat) (p0 p1 side amt : Int) (w : World) (hC : CRow w a s.cs) (hl : s.cs.length = n) (hn : n ≤ 1000) (hp0 : Word p0) (hp1 : Word p1) (hO : s.Ok) :
    Calls Try.prog 43 #[.agg #[.int .u32 s.ch, .int .u64 s.rd, .int .u64 s.m0, .int .u64 s.m1, .int .u64 s.t0, .int .u64 s.t1, .slice a n cap], .agg #[.int .u64 p0, .int .u64 p1], .int .i64 side, .int .u64 amt] w fun e w' => e = .returned (.int .i64 (spE (freeF s p0 p1 side) amt)) ∧ Below w.heap.size w w' := by
  have HC := Lib.hid hC
  have HL := Lib.hid hl
  have HO := Lib.hid hO
  have HB : Hid (Below w.heap.size w ((w.alloc (.cells #[.int .u32 s.ch, .int .u64 s.rd, .int .u64 s.m0, .int .u64 s.m1, .int .u64 s.t0, .int .u64 s.t1, .slice a n cap] 27)).alloc (.cells #[.int .u64 p0, .int .u64 p1] 24))) := Lib.hid (((Below.refl _ _).alloc (Nat.le_refl _) _).alloc (by simp) _)
  have S0 : Hid (Blk ((w.alloc (.cells #[.int .u32 s.ch, .int .u64 s.rd, .int .u64 s.m0, .int .u64 s.m1, .int .u64 s.t0, .int .u64 s.t1, .slice a n cap] 27)).alloc (.cells #[.int .u64 p0, .int .u64 p1] 24)) w.heap.size 27 [.int .u32 s.ch, .int .u64 s.rd, .int .u64 s.m0, .int .u64 s.m1, .int .u64 s.t0, .int .u64 s.t1, .slice a n cap]) := Lib.hid ((Blk.mk_ rfl).alloc _)
  have P0 : Hid (Blk ((w.alloc (.cells #[.int .u32 s.ch, .int .u64 s.rd, .int .u64 s.m0, .int .u64 s.m1, .int .u64 s.t0, .int .u64 s.t1, .slice a n cap] 27)).alloc (.cells #[.int .u64 p0, .int .u64 p1] 24)) (w.heap.size + 1) 24 [.int .u64 p0, .int .u64 p1]) := Lib.hid (Blk.mk_ (by simp))
  clear hC hl hO
  by_cases h0 : amt = 0
  · subst h0
    have HT := Lib.hid (spE_arg (freeF s p0 p1 side))
    go_enter Try.func43, Try.ntmps43
    go_wp2
    go_ret
    exact ⟨by rw [HT.out]; rfl, HB.out⟩
  · have b0 : (amt == 0) = false := by simpa using h0
    have H0 := Lib.hid h0
    clear h0
    go_enter Try.func43, Try.ntmps43
    go_upto_region 3 with fail
    generalize ((w.alloc (.cells #[.int .u32 s.ch, .int .u64 s.rd, .int .u64 s.m0, .int .u64 s.m1, .int .u64 s.t0, .int .u64 s.t1, .slice a n cap] 27)).alloc (.cells #[.int .u64 p0, .int .u64 p1] 24)) = W at HB S0 P0 ⊢
    obtain ⟨gp, hgp⟩ : ∃ q, w.heap.size + 1 = q := ⟨_, rfl⟩
    obtain ⟨g, hg⟩ : ∃ q, w.heap.size = q := ⟨_, rfl⟩
    rw [hgp] at P0 ⊢
    rw [hg] at S0 ⊢
    clear hg hgp b0
    have k0 := S0.out.cell 0
    have k1 := S0.out.cell 1
    have k2 := S0.out.cell 2
    have k3 := S0.out.cell 3
    have k4 := S0.out.cell 4
    have k5 := S0.out.cell 5
    have k6 := S0.out.cell 6
    simp only [List.getElem?_cons_zero, List.getElem?_cons_succ] at k0 k1 k2 k3 k4 k5 k6
    have q0 := P0.out.cell 0
    have q1 := P0.out.cell 1
    simp only [List.getElem?_cons_zero, List.getElem?_cons_succ] at q0 q1
    go_wp2_with fail
    clear k0 k1 k2 k3 k4 k5 k6 q0 q1
    refine (rfree_any s.ch s.rd s.m0 s.m1 s.t0 s.t1 a n cap s.cs p0 p1 side W (HC.out.below HB.out) HL.out hn hp0 hp1 HO.out.eta).mono ?_
    rintro e V ⟨rfl, hB⟩
    have HV := Lib.hid (HB.out.trans (hB.mono HB.out.size))
    clear hB S0 P0 HB
    rw [show (⟨s.ch, s.rd, s.m0, s.m1, s.t0, s.t1, s.cs⟩ : St) = s from rfl]
    obtain ⟨fv, hfv⟩ : ∃ x, (freeF s p0 p1 side).1 = x := ⟨_, rfl⟩
    obtain ⟨fe, hfe⟩ : ∃ x, (freeF s p0 p1 side).2 = x := ⟨_, rfl⟩
    have HFF : Hid (freeF s p0 p1 side = (fv, fe)) := Lib.hid (by rw [← hfv, ← hfe])
    rw [hfv, hfe]
    clear hfv hfe
    by_cases he : fe = 0
    · subst he
      by_cases hr : fv < amt
      · have HT := Lib.hid (spE_room (f := (fv, 0)) H0.out rfl hr)
        go_wp2
        go_ret
        exact ⟨by rw [HFF.out, HT.out]; rfl, HV.out⟩
      · have HT := Lib.hid (spE_ok (f := (fv, 0)) H0.out rfl hr)
        go_wp2
        go_ret
        exact ⟨by rw [HFF.out, HT.out]; rfl, HV.out⟩
    · have b1 : (fe != 0) = true := by simpa using he
      have HT := Lib.hid (spE_e (f := (fv, fe)) H0.out he)
      clear he
      go_wp2
      go_ret
      exact ⟨by rw [HFF.out, HT.out]; rfl, HV.out⟩

theorem zero27 (W : World) : (Instr.build 27 #[]).run Try.prog W = .ok (.agg #[.int .u32 0, .int .u64 0, .int .u64 0, .int .u64 0, .int .u64 0, .int .u64 0, .slice none 0 0]) W := by kernel_rfl
theorem built27 (ch rd m0 m1 t0 t1 : Int) (W : World) : (Instr.build 27 #[(0, .int .u32 ch), (1, .int .u64 rd), (2, .agg #[.int .u64 m0, .int .u64 m1]), (3, .agg #[.int .u64 t0, .int .u64 t1]), (4, .slice none 0 0)]).run Try.prog W = .ok (.agg #[.int .u32 ch, .int .u64 rd, .int .u64 m0, .int .u64 m1, .int .u64 t0, .int .u64 t1, .slice none 0 0]) W := by kernel_rfl
/-- What the document's Next leaves: a state in memory of its own, and the error. -/
def RNextPost (s : St) (E : Int) (w : World) (e : Ending) (w' : World) : Prop :=
  ∃ a n cap, e = .returned (.tuple #[.agg #[.int .u32 s.ch, .int .u64 s.rd, .int .u64 s.m0, .int .u64 s.m1, .int .u64 s.t0, .int .u64 s.t1, .slice a n cap], .int .i64 E]) ∧ w'.ownsRow w.heap.size 53 36 (.slice a n cap) n (cflat s.cs) ∧ s.cs.length = n ∧ Below w.heap.size w w'
/-- The payments behind so many rounds, without one of them. -/
def skp (at_ : Int) (l : List Cnd) (i : Nat) : List Cnd := if at_ < 0 then l.take i else (l.take i).eraseIdx at_.toNat
theorem skp_0 (at_ : Int) (l : List Cnd) : skp at_ l 0 = [] := by unfold skp; split <;> simp
theorem take_snoc (l : List Cnd) (i : Nat) (h : i < l.length) : l.take (i + 1) = l.take i ++ [l.getD i cnd0] := by
  rw [List.take_succ_eq_append_getElem h]
  simp [List.getD, h]
theorem skp_ne (at_ : Int) (l : List Cnd) (i : Nat) (h : i < l.length) (hne : (i : Int) ≠ at_) : skp at_ l (i + 1) = skp at_ l i ++ [l.getD i cnd0] := by
  unfold skp
  split
  · exact take_snoc l i h
  · rename_i h0
    have hl : (l.take i).length = i := by rw [List.length_take]; omega
    rw [take_snoc l i h]
    by_cases hj : at_.toNat < i
    · rw [List.eraseIdx_append_of_lt_length (by rw [hl]; exact hj)]
    · rw [List.eraseIdx_of_length_le (by rw [List.length_append, hl]; simp; omega), List.eraseIdx_of_length_le (by rw [hl]; omega)]
theorem skp_eq (at_ : Int) (l : List Cnd) (i : Nat) (h : i < l.length) (he : (i : Int) = at_) : skp at_ l (i + 1) = skp at_ l i := by
  unfold skp
  rw [if_neg (by omega), if_neg (by omega)]
  have hj : at_.toNat = i := by omega
  have hl : (l.take i).length = i := by rw [List.length_take]; omega
  rw [hj, take_snoc l i h, List.eraseIdx_append_of_length_le (by rw [hl]; exact Nat.le_refl _), hl, Nat.sub_self, List.eraseIdx_of_length_le (l := l.take i) (by rw [hl]; exact Nat.le_refl _)]
  simp
theorem skp_all (at_ : Int) (l : List Cnd) (h : at_ < 0) : skp at_ l l.length = l := by unfold skp; rw [if_pos h, List.take_length]
theorem skp_out (j : Nat) (l : List Cnd) : skp (j : Int) l l.length = l.eraseIdx j := by unfold skp; rw [if_neg (by omega), List.take_length]; rfl
theorem skp_len (at_ : Int) (l : List Cnd) (i : Nat) : (skp at_ l i).length ≤ i := by
  unfold skp
  split
  · rw [List.length_take]; omega
  · have := List.length_eraseIdx_le (l.take i) at_.toNat
    rw [List.length_take] at this; omega

theorem wpList_lay_v {P : Program} {w : World} {ops : Array Oper} {rest : List Oper} {o : Oper} {a : Act} {Q : Exit → Act → World → Prop} (hgd : o.guard = none) (t len : Nat) (parts : Array (Nat × Operand)) (ho : o.op = .buildSlice t len parts)
    (vals : Array (Nat × Value)) (hv : (parts.map fun (i, x) => (i, a.eval x)) = vals) (v : Value) (W : World) (hb : (Instr.buildSlice t len vals).run P w = .ok v W) (h : wpList P ops Q rest (a.put o.dst v) W) : wpList P ops Q (o :: rest) a w := by
  refine wpList_plain hgd fun K hK => ?_
  unfold Oper.wp
  have e : (execOp a.eval o).run P w = .ok (.value v) W := by
    unfold execOp
    simp only [ho, hv, Sem.run_bind, hb, Result.andThen_ok, Sem.run_pure]
  rw [e]
  exact hK _ _ h
theorem run_store_u64 (w : World) (g i : Nat) (x : Int) (tb : TypeId) (cs : List Value) (hB : Blk w g tb cs) (hi : i < cs.length) : (Instr.storeAt 23 (.pointer (some ⟨g, i, none⟩)) (.int .u64 x)).run Try.prog w = .ok () (w.setCell ⟨g, i, none⟩ (.int .u64 x)) := by
  have c0 := hB.cell i
  have c1 := hB.frozen i
  rw [List.getElem?_eq_getElem hi] at c0
  go_simp
theorem run_load_u64 (w : World) (g i : Nat) (x : Int) (tb : TypeId) (cs : List Value) (hB : Blk w g tb cs) (hi : cs[i]? = some (.int .u64 x)) : (Instr.loadAt 23 (.pointer (some ⟨g, i, none⟩))).run Try.prog w = .ok (.int .u64 x) w := by
  have c0 := hB.cell i
  rw [hi] at c0
  go_simp
theorem doE_0 (s : St) (p0 p1 side amt : Int) (c : Cnd) (id : Int) : doE s p0 p1 side 0 amt c id = 0 := by simp [doE]
theorem doE_1 (s : St) (p0 p1 side amt : Int) (c : Cnd) (id : Int) : doE s p0 p1 side 1 amt c id = spR (spE (freeF s p0 p1 side) amt) (s.mv side) amt := by simp [doE]
theorem doE_2 (s : St) (p0 p1 side amt : Int) (c : Cnd) (id : Int) : doE s p0 p1 side 2 amt c id = lockE s p0 p1 side c := by simp [doE]
theorem doE_3n {s : St} {id : Int} (h : findV id s.cs < 0) (p0 p1 side amt : Int) (c : Cnd) : doE s p0 p1 side 3 amt c id = 6 := by simp [doE, h]
theorem doE_3 {s : St} {id : Int} (h : ¬ findV id s.cs < 0) (p0 p1 side amt : Int) (c : Cnd) : doE s p0 p1 side 3 amt c id = spR 0 (s.mv (s.at_ id).side) (s.at_ id).amt := by simp [doE, h]
theorem doE_4n {s : St} {id : Int} (h : findV id s.cs < 0) (p0 p1 side amt : Int) (c : Cnd) : doE s p0 p1 side 4 amt c id = 6 := by simp [doE, h]
theorem doE_4 {s : St} {id : Int} (h : ¬ findV id s.cs < 0) (p0 p1 side amt : Int) (c : Cnd) : doE s p0 p1 side 4 amt c id = 0 := by simp [doE, h]
theorem doE_5 (s : St) (p0 p1 side amt : Int) (c : Cnd) (id : Int) : doE s p0 p1 side 5 amt c id = spR (spE (freeF s p0 p1 side) amt) (s.tk side) amt := by simp [doE]
theorem doE_n {k : Int} (h0 : k ≠ 0) (h1 : k ≠ 1) (h2 : k ≠ 2) (h3 : k ≠ 3) (h4 : k ≠ 4) (h5 : k ≠ 5) (s : St) (p0 p1 side amt : Int) (c : Cnd) (id : Int) : doE s p0 p1 side k amt c id = 33 := by simp [doE, h0, h1, h2, h3, h4, h5]
theorem doS_0 (s : St) (side amt : Int) (c : Cnd) (id : Int) : doS s side 0 amt c id = s := by simp [doS]
theorem doS_1 (s : St) (side amt : Int) (c : Cnd) (id : Int) : doS s side 1 amt c id = s.pay side amt := by simp [doS]
theorem doS_2 (s : St) (side amt : Int) (c : Cnd) (id : Int) : doS s side 2 amt c id = s.add c := by simp [doS]
theorem doS_3 (s : St) (side amt : Int) (c : Cnd) (id : Int) : doS s side 3 amt c id = (s.less id).pay (s.at_ id).side (s.at_ id).amt := by simp [doS]
theorem doS_4 (s : St) (side amt : Int) (c : Cnd) (id : Int) : doS s side 4 amt c id = s.less id := by simp [doS]
theorem doS_5 (s : St) (side amt : Int) (c : Cnd) (id : Int) : doS s side 5 amt c id = s.tak side amt := by simp [doS]

set_option maxRecDepth 100000 in
set_option maxHeartbeats 4000000 in
theorem rnext_bad (n cap : Nat) (s : St) (a : Option Addr) (p0 p1 side k amt id : Int) (c : Cnd) (w : World) (hC : CRow w a s.cs) (hl : s.cs.length = n) (hn : n ≤ 1000) (hok : c.Ok) (hamt : Word amt) (hp0 : Word p0) (hp1 : Word p1) (hO : s.Ok) (hbad : soundE s p0 p1 ≠ 0 ∨ s.rd = 200 ∨ side ≠ turnF (s.rd + 1)) :
    Calls Try.prog 26 #[.agg #[.int .u32 s.ch, .int .u64 s.rd, .int .u64 s.m0, .int .u64 s.m1, .int .u64 s.t0, .int .u64 s.t1, .slice a n cap], .agg #[.int .u64 p0, .int .u64 p1], .int .i64 side, .agg (ocells k amt c id).toArray] w (RNextPost (nextS s p0 p1 side k amt c id) (nextE s p0 p1 side k amt c id) w) := by
  have HBAD := Lib.hid hbad
  clear hbad
  have BX0 : Hid (Below w.heap.size w ((((w.alloc (.cells #[.int .u32 s.ch, .int .u64 s.rd, .int .u64 s.m0, .int .u64 s.m1, .int .u64 s.t0, .int .u64 s.t1, .slice a n cap] 27)).alloc (.cells #[.int .u64 p0, .int .u64 p1] 24)).alloc (.cells (ocells k amt c id).toArray 55)).alloc (.cells #[.int .u32 0, .int .u64 0, .int .u64 0, .int .u64 0, .int .u64 0, .int .u64 0, .slice none 0 0] 27))) := Lib.hid (((((Below.refl _ _).alloc (Nat.le_refl _) _).alloc (by simp) _).alloc (by simp; omega) _).alloc (by simp; omega) _)
  have SX0 : Hid (Blk ((((w.alloc (.cells #[.int .u32 s.ch, .int .u64 s.rd, .int .u64 s.m0, .int .u64 s.m1, .int .u64 s.t0, .int .u64 s.t1, .slice a n cap] 27)).alloc (.cells #[.int .u64 p0, .int .u64 p1] 24)).alloc (.cells (ocells k amt c id).toArray 55)).alloc (.cells #[.int .u32 0, .int .u64 0, .int .u64 0, .int .u64 0, .int .u64 0, .int .u64 0, .slice none 0 0] 27)) w.heap.size 27 [.int .u32 s.ch, .int .u64 s.rd, .int .u64 s.m0, .int .u64 s.m1, .int .u64 s.t0, .int .u64 s.t1, .slice a n cap]) := Lib.hid ((((Blk.mk_ rfl).alloc _).alloc _).alloc _)
  have PX0 : Hid (Blk ((((w.alloc (.cells #[.int .u32 s.ch, .int .u64 s.rd, .int .u64 s.m0, .int .u64 s.m1, .int .u64 s.t0, .int .u64 s.t1, .slice a n cap] 27)).alloc (.cells #[.int .u64 p0, .int .u64 p1] 24)).alloc (.cells (ocells k amt c id).toArray 55)).alloc (.cells #[.int .u32 0, .int .u64 0, .int .u64 0, .int .u64 0, .int .u64 0, .int .u64 0, .slice none 0 0] 27)) (w.heap.size + 1) 24 [.int .u64 p0, .int .u64 p1]) := Lib.hid (((Blk.mk_ (by simp)).alloc _).alloc _)
  have KX0 : Hid (Blk ((((w.alloc (.cells #[.int .u32 s.ch, .int .u64 s.rd, .int .u64 s.m0, .int .u64 s.m1, .int .u64 s.t0, .int .u64 s.t1, .slice a n cap] 27)).alloc (.cells #[.int .u64 p0, .int .u64 p1] 24)).alloc (.cells (ocells k amt c id).toArray 55)).alloc (.cells #[.int .u32 0, .int .u64 0, .int .u64 0, .int .u64 0, .int .u64 0, .int .u64 0, .slice none 0 0] 27)) (w.heap.size + 1 + 1) 55 (ocells k amt c id)) := Lib.hid ((Blk.mk_ (by simp)).alloc _)
  have RX0 : Hid (Blk ((((w.alloc (.cells #[.int .u32 s.ch, .int .u64 s.rd, .int .u64 s.m0, .int .u64 s.m1, .int .u64 s.t0, .int .u64 s.t1, .slice a n cap] 27)).alloc (.cells #[.int .u64 p0, .int .u64 p1] 24)).alloc (.cells (ocells k amt c id).toArray 55)).alloc (.cells #[.int .u32 0, .int .u64 0, .int .u64 0, .int .u64 0, .int .u64 0, .int .u64 0, .slice none 0 0] 27)) (w.heap.size + 1 + 1 + 1) 27 [.int .u32 0, .int .u64 0, .int .u64 0, .int .u64 0, .int .u64 0, .int .u64 0, .slice none 0 0]) := Lib.hid (Blk.mk_ (by simp))
  have HOK := Lib.hid hok
  have HO := Lib.hid hO
  have HC := Lib.hid hC
  have HL := Lib.hid hl
  clear hC hl hok hO
  go_enter Try.func26, Try.ntmps26
  go_upto_region 1 with fail
  generalize ((((w.alloc (.cells #[.int .u32 s.ch, .int .u64 s.rd, .int .u64 s.m0, .int .u64 s.m1, .int .u64 s.t0, .int .u64 s.t1, .slice a n cap] 27)).alloc (.cells #[.int .u64 p0, .int .u64 p1] 24)).alloc (.cells (ocells k amt c id).toArray 55)).alloc (.cells #[.int .u32 0, .int .u64 0, .int .u64 0, .int .u64 0, .int .u64 0, .int .u64 0, .slice none 0 0] 27)) = X0 at BX0 SX0 PX0 KX0 RX0 ⊢
  obtain ⟨gR, hgR⟩ : ∃ q, w.heap.size + 1 + 1 + 1 = q := ⟨_, rfl⟩
  obtain ⟨gk, hgk⟩ : ∃ q, w.heap.size + 1 + 1 = q := ⟨_, rfl⟩
  obtain ⟨gp, hgp⟩ : ∃ q, w.heap.size + 1 = q := ⟨_, rfl⟩
  obtain ⟨gS, hgS⟩ : ∃ q, w.heap.size = q := ⟨_, rfl⟩
  have HGR : Hid (w.heap.size ≤ gR) := Lib.hid (by omega)
  have HPK : Hid (gp < gR ∧ gk < gR ∧ gS < gR) := Lib.hid ⟨by omega, by omega, by omega⟩
  rw [hgR] at RX0 ⊢
  rw [hgk] at KX0 ⊢
  rw [hgp] at PX0 ⊢
  rw [hgS] at SX0 ⊢
  clear hgR hgk hgp hgS

  have k0 := SX0.out.cell 0
  have k1 := SX0.out.cell 1
  have k2 := SX0.out.cell 2
  have k3 := SX0.out.cell 3
  have k4 := SX0.out.cell 4
  have k5 := SX0.out.cell 5
  have k6 := SX0.out.cell 6
  simp only [List.getElem?_cons_zero, List.getElem?_cons_succ] at k0 k1 k2 k3 k4 k5 k6
  have q0 := PX0.out.cell 0
  have q1 := PX0.out.cell 1
  simp only [List.getElem?_cons_zero, List.getElem?_cons_succ] at q0 q1
  go_wp2_with fail
  clear k0 k1 k2 k3 k4 k5 k6 q0 q1
  refine ((show Calls Try.prog 16 #[.agg #[.int .u32 s.ch, .int .u64 s.rd, .int .u64 s.m0, .int .u64 s.m1, .int .u64 s.t0, .int .u64 s.t1, .slice a n cap], .agg #[.int .u64 p0, .int .u64 p1]] X0 (fun e w2 => e = .returned (.int .i64 (soundE s p0 p1)) ∧ Below X0.heap.size X0 w2) from rsound_any s.ch s.rd s.m0 s.m1 s.t0 s.t1 a n cap s.cs p0 p1 X0 (HC.out.below BX0.out) HL.out hn hp0 hp1 HO.out.eta)).mono ?_
  rintro e Y1 ⟨rfl, hB⟩
  have BY1 : Hid (Below w.heap.size w Y1) := Lib.hid (BX0.out.trans (hB.mono BX0.out.size))
  have SY1 : Hid (Blk Y1 gS 27 [.int .u32 s.ch, .int .u64 s.rd, .int .u64 s.m0, .int .u64 s.m1, .int .u64 s.t0, .int .u64 s.t1, .slice a n cap]) := Lib.hid (SX0.out.below hB SX0.out.lt)
  have PY1 : Hid (Blk Y1 gp 24 [.int .u64 p0, .int .u64 p1]) := Lib.hid (PX0.out.below hB PX0.out.lt)
  have KY1 : Hid (Blk Y1 gk 55 (ocells k amt c id)) := Lib.hid (KX0.out.below hB KX0.out.lt)
  have RY1 : Hid (Blk Y1 gR 27 [.int .u32 0, .int .u64 0, .int .u64 0, .int .u64 0, .int .u64 0, .int .u64 0, .slice none 0 0]) := Lib.hid (RX0.out.below hB RX0.out.lt)
  clear BX0 SX0 PX0 KX0 RX0
  clear hB
  obtain ⟨E1, hE1⟩ : ∃ E1, soundE s p0 p1 = E1 := ⟨_, rfl⟩
  rw [hE1]
  have HE1 := Lib.hid hE1
  clear hE1
  by_cases h1 : E1 = 0
  case neg =>
    have b1 : (E1 != 0) = true := by simpa using h1
    have HNZ : Hid (¬ E1 = 0) := Lib.hid h1
    have HT : Hid (nextE s p0 p1 side k amt c id = E1) := Lib.hid (by rw [nextE_1 (by rw [HE1.out]; exact h1), HE1.out])
    clear h1
    have r0 := RY1.out.cell 0
    have r1 := RY1.out.cell 1
    have r2 := RY1.out.cell 2
    have r3 := RY1.out.cell 3
    have r4 := RY1.out.cell 4
    have r5 := RY1.out.cell 5
    have r6 := RY1.out.cell 6
    simp only [List.getElem?_cons_zero, List.getElem?_cons_succ] at r0 r1 r2 r3 r4 r5 r6
    have f0 := RY1.out.frozen 0
    have f1 := RY1.out.frozen 1
    have f2 := RY1.out.frozen 2
    have f3 := RY1.out.frozen 3
    have f4 := RY1.out.frozen 4
    have f5 := RY1.out.frozen 5
    have f6 := RY1.out.frozen 6
    have z27 := zero27
    go_wp2
    have hRR : Blk ((((((((Y1.setCell ⟨gR, 0, none⟩ (.int .u32 0)).setCell ⟨gR, 1, none⟩ (.int .u64 0)).setCell ⟨gR, 2, none⟩ (.int .u64 0)).setCell ⟨gR, 3, none⟩ (.int .u64 0)).setCell ⟨gR, 4, none⟩ (.int .u64 0)).setCell ⟨gR, 5, none⟩ (.int .u64 0)).setCell ⟨gR, 6, none⟩ (.slice none 0 0))) gR 27 [.int .u32 0, .int .u64 0, .int .u64 0, .int .u64 0, .int .u64 0, .int .u64 0, .slice none 0 0] := (((((((RY1.out.set_ 0 _).set_ 1 _).set_ 2 _).set_ 3 _).set_ 4 _).set_ 5 _).set_ 6 _)
    exact bodyPost_ret (results_ct Try.results26 _ _ gR 27 [.int .u32 0, .int .u64 0, .int .u64 0, .int .u64 0, .int .u64 0, .int .u64 0, .slice none 0 0] _ rfl hRR Try.underlying27 rfl info27) rfl (by rw [show nextS s p0 p1 side k amt c id = st0 from if_neg (by rw [HT.out]; exact HNZ.out), HT.out]; exact ⟨none, 0, 0, rfl, World.ownsRow_nil _ _ _ _, rfl, (((((((BY1.out.setCell (p := ⟨gR, 0, none⟩) HGR.out _).setCell (p := ⟨gR, 1, none⟩) HGR.out _).setCell (p := ⟨gR, 2, none⟩) HGR.out _).setCell (p := ⟨gR, 3, none⟩) HGR.out _).setCell (p := ⟨gR, 4, none⟩) HGR.out _).setCell (p := ⟨gR, 5, none⟩) HGR.out _).setCell (p := ⟨gR, 6, none⟩) HGR.out _)⟩)
  subst h1
  have HSP := Lib.hid (sound_parts HE1.out)
  have k0 := SY1.out.cell 0
  have k1 := SY1.out.cell 1
  have k2 := SY1.out.cell 2
  have k3 := SY1.out.cell 3
  have k4 := SY1.out.cell 4
  have k5 := SY1.out.cell 5
  have k6 := SY1.out.cell 6
  simp only [List.getElem?_cons_zero, List.getElem?_cons_succ] at k0 k1 k2 k3 k4 k5 k6
  by_cases h2 : s.rd = 200
  case pos =>
    have b2 : (s.rd == 200) = true := by simpa using h2
    have HNZ : Hid (¬ (8 : Int) = 0) := Lib.hid (by decide)
    have HT : Hid (nextE s p0 p1 side k amt c id = 8) := Lib.hid (nextE_2 HE1.out h2)
    clear h2
    have r0 := RY1.out.cell 0
    have r1 := RY1.out.cell 1
    have r2 := RY1.out.cell 2
    have r3 := RY1.out.cell 3
    have r4 := RY1.out.cell 4
    have r5 := RY1.out.cell 5
    have r6 := RY1.out.cell 6
    simp only [List.getElem?_cons_zero, List.getElem?_cons_succ] at r0 r1 r2 r3 r4 r5 r6
    have f0 := RY1.out.frozen 0
    have f1 := RY1.out.frozen 1
    have f2 := RY1.out.frozen 2
    have f3 := RY1.out.frozen 3
    have f4 := RY1.out.frozen 4
    have f5 := RY1.out.frozen 5
    have f6 := RY1.out.frozen 6
    have z27 := zero27
    go_wp2
    have hRR : Blk ((((((((Y1.setCell ⟨gR, 0, none⟩ (.int .u32 0)).setCell ⟨gR, 1, none⟩ (.int .u64 0)).setCell ⟨gR, 2, none⟩ (.int .u64 0)).setCell ⟨gR, 3, none⟩ (.int .u64 0)).setCell ⟨gR, 4, none⟩ (.int .u64 0)).setCell ⟨gR, 5, none⟩ (.int .u64 0)).setCell ⟨gR, 6, none⟩ (.slice none 0 0))) gR 27 [.int .u32 0, .int .u64 0, .int .u64 0, .int .u64 0, .int .u64 0, .int .u64 0, .slice none 0 0] := (((((((RY1.out.set_ 0 _).set_ 1 _).set_ 2 _).set_ 3 _).set_ 4 _).set_ 5 _).set_ 6 _)
    exact bodyPost_ret (results_ct Try.results26 _ _ gR 27 [.int .u32 0, .int .u64 0, .int .u64 0, .int .u64 0, .int .u64 0, .int .u64 0, .slice none 0 0] _ rfl hRR Try.underlying27 rfl info27) rfl (by rw [show nextS s p0 p1 side k amt c id = st0 from if_neg (by rw [HT.out]; exact HNZ.out), HT.out]; exact ⟨none, 0, 0, rfl, World.ownsRow_nil _ _ _ _, rfl, (((((((BY1.out.setCell (p := ⟨gR, 0, none⟩) HGR.out _).setCell (p := ⟨gR, 1, none⟩) HGR.out _).setCell (p := ⟨gR, 2, none⟩) HGR.out _).setCell (p := ⟨gR, 3, none⟩) HGR.out _).setCell (p := ⟨gR, 4, none⟩) HGR.out _).setCell (p := ⟨gR, 5, none⟩) HGR.out _).setCell (p := ⟨gR, 6, none⟩) HGR.out _)⟩)
  have b2 : (s.rd == 200) = false := by simpa using h2
  have H2 := Lib.hid h2
  clear h2
  have e1 : IntKind.u64.wrap (s.rd + 1) = s.rd + 1 := IntWalk.u64_in _ ⟨by have := HO.out.rd.1; omega, by have := HSP.out.1; omega⟩
  have hw1 : Word (s.rd + 1) := ⟨by have := HO.out.rd.1; omega, by have := HSP.out.1; omega⟩
  obtain ⟨T, hT⟩ : ∃ T, turnF (s.rd + 1) = T := ⟨_, rfl⟩
  have HTT := Lib.hid hT
  have HTC : Hid (∀ W, Calls Try.prog 23 #[.int .u64 (s.rd + 1)] W fun e w2 => e = .returned (.int .i64 T) ∧ W = w2) := Lib.hid (fun W => by have := rturn_any (s.rd + 1) W hw1; rwa [hT] at this)
  clear hT hw1
  have h3 : ¬ side = T := fun h => by rcases HBAD.out with hb | hb | hb; exact hb HE1.out; exact H2.out hb; exact hb (by rw [HTT.out]; exact h)
  have b3 : (side != T) = true := by simpa using h3
  have HNZ : Hid (¬ (26 : Int) = 0) := Lib.hid (by decide)
  have HT : Hid (nextE s p0 p1 side k amt c id = 26) := Lib.hid (nextE_3 HE1.out H2.out (by rw [HTT.out]; exact h3))
  clear h3
  have r0 := RY1.out.cell 0
  have r1 := RY1.out.cell 1
  have r2 := RY1.out.cell 2
  have r3 := RY1.out.cell 3
  have r4 := RY1.out.cell 4
  have r5 := RY1.out.cell 5
  have r6 := RY1.out.cell 6
  simp only [List.getElem?_cons_zero, List.getElem?_cons_succ] at r0 r1 r2 r3 r4 r5 r6
  have f0 := RY1.out.frozen 0
  have f1 := RY1.out.frozen 1
  have f2 := RY1.out.frozen 2
  have f3 := RY1.out.frozen 3
  have f4 := RY1.out.frozen 4
  have f5 := RY1.out.frozen 5
  have f6 := RY1.out.frozen 6
  have z27 := zero27
  go_wp2_with (go_at_call 23; refine (HTC.out _).mono ?_; rintro e w2 ⟨rfl, rfl⟩)
  have hRR : Blk ((((((((Y1.setCell ⟨gR, 0, none⟩ (.int .u32 0)).setCell ⟨gR, 1, none⟩ (.int .u64 0)).setCell ⟨gR, 2, none⟩ (.int .u64 0)).setCell ⟨gR, 3, none⟩ (.int .u64 0)).setCell ⟨gR, 4, none⟩ (.int .u64 0)).setCell ⟨gR, 5, none⟩ (.int .u64 0)).setCell ⟨gR, 6, none⟩ (.slice none 0 0))) gR 27 [.int .u32 0, .int .u64 0, .int .u64 0, .int .u64 0, .int .u64 0, .int .u64 0, .slice none 0 0] := (((((((RY1.out.set_ 0 _).set_ 1 _).set_ 2 _).set_ 3 _).set_ 4 _).set_ 5 _).set_ 6 _)
  exact bodyPost_ret (results_ct Try.results26 _ _ gR 27 [.int .u32 0, .int .u64 0, .int .u64 0, .int .u64 0, .int .u64 0, .int .u64 0, .slice none 0 0] _ rfl hRR Try.underlying27 rfl info27) rfl (by rw [show nextS s p0 p1 side k amt c id = st0 from if_neg (by rw [HT.out]; exact HNZ.out), HT.out]; exact ⟨none, 0, 0, rfl, World.ownsRow_nil _ _ _ _, rfl, (((((((BY1.out.setCell (p := ⟨gR, 0, none⟩) HGR.out _).setCell (p := ⟨gR, 1, none⟩) HGR.out _).setCell (p := ⟨gR, 2, none⟩) HGR.out _).setCell (p := ⟨gR, 3, none⟩) HGR.out _).setCell (p := ⟨gR, 4, none⟩) HGR.out _).setCell (p := ⟨gR, 5, none⟩) HGR.out _).setCell (p := ⟨gR, 6, none⟩) HGR.out _)⟩)
end Go.Proofs.Ytkiifjkcpangfaa
