/-
  The document's next state: where a payment is laid.
-/
import Derived.Test.YtkiifjkcpangfaaPacU
namespace Go.Proofs.Ytkiifjkcpangfaa
open Go.RowKit
set_option linter.unusedVariables false

section
variable {P : Program} {w : World} {ops : Array Oper} {rest : List Oper} {o : Oper} {a : Act} {Q : Exit → Act → World → Prop}
theorem wpList_val (hgd : o.guard = none) (v : Value) (W : World) (hr : (execOp a.eval o).run P w = .ok (.value v) W) (h : wpList P ops Q rest (a.put o.dst v) W) : wpList P ops Q (o :: rest) a w := by
  refine wpList_plain hgd fun K hK => ?_
  unfold Oper.wp
  rw [hr]
  exact hK _ _ h
theorem wpList_ld (hgd : o.guard = none) (t : TypeId) (x : Operand) (ho : o.op = .load t x) (g i : Nat) (hx : a.eval x = .pointer (some ⟨g, i, none⟩)) (v : Value) (hr : (Instr.loadAt t (.pointer (some ⟨g, i, none⟩))).run P w = .ok v w) (h : wpList P ops Q rest (a.put o.dst v) w) : wpList P ops Q (o :: rest) a w :=
  wpList_val hgd v w (by unfold execOp; simp only [ho, hx, Sem.run_bind, hr, Result.andThen_ok, Sem.run_pure]) h
theorem wpList_cell (hgd : o.guard = none) (t : TypeId) (d s : Operand) (ho : o.op = .store t d s) (g i : Nat) (hd : a.eval d = .pointer (some ⟨g, i, none⟩)) (v : Value) (hs : a.eval s = v)
    (hr : (Instr.storeAt t (.pointer (some ⟨g, i, none⟩)) v).run P w = .ok () (w.setCell ⟨g, i, none⟩ v)) (h : wpList P ops Q rest (a.put o.dst undef) (w.setCell ⟨g, i, none⟩ v)) : wpList P ops Q (o :: rest) a w := by
  refine wpList_plain hgd fun K hK => ?_
  unfold Oper.wp execOp
  simp only [ho, hd, hs, Sem.run_bind, hr, Result.andThen_ok, Sem.run_pure]
  exact hK _ _ h
end

set_option maxRecDepth 100000 in
set_option maxHeartbeats 4000000 in
theorem rnext_2 (n cap : Nat) (s : St) (a : Option Addr) (p0 p1 side amt id : Int) (c : Cnd) (w : World) (hC : CRow w a s.cs) (hl : s.cs.length = n) (hn : n ≤ 1000) (hok : c.Ok) (hamt : Word amt) (hp0 : Word p0) (hp1 : Word p1) (hO : s.Ok) (hE1 : soundE s p0 p1 = 0) (hrd : ¬ s.rd = 200) (htn : side = turnF (s.rd + 1)) :
    Calls Try.prog 26 #[.agg #[.int .u32 s.ch, .int .u64 s.rd, .int .u64 s.m0, .int .u64 s.m1, .int .u64 s.t0, .int .u64 s.t1, .slice a n cap], .agg #[.int .u64 p0, .int .u64 p1], .int .i64 side, .agg (ocells 2 amt c id).toArray] w (RNextPost (nextS s p0 p1 side 2 amt c id) (nextE s p0 p1 side 2 amt c id) w) := by
  have HE1 := Lib.hid hE1
  have H2 := Lib.hid hrd
  have H3 := Lib.hid htn
  have HSP := Lib.hid (sound_parts hE1)
  have HSD := Lib.hid (sound_sides hE1)
  have HSD01 : Hid (side = 0 ∨ side = 1) := Lib.hid (by rw [htn]; exact turnF_side _)
  have HON : Hid s.nxt.Ok := Lib.hid ⟨⟨by show 0 ≤ s.rd + 1; have := hO.rd.1; omega, by show s.rd + 1 ≤ _; have := (sound_parts hE1).1; omega⟩, hO.m0, hO.m1, hO.t0, hO.t1⟩
  clear hE1 hrd htn
  have BX0 : Hid (Below w.heap.size w ((((w.alloc (.cells #[.int .u32 s.ch, .int .u64 s.rd, .int .u64 s.m0, .int .u64 s.m1, .int .u64 s.t0, .int .u64 s.t1, .slice a n cap] 27)).alloc (.cells #[.int .u64 p0, .int .u64 p1] 24)).alloc (.cells (ocells 2 amt c id).toArray 55)).alloc (.cells #[.int .u32 0, .int .u64 0, .int .u64 0, .int .u64 0, .int .u64 0, .int .u64 0, .slice none 0 0] 27))) := Lib.hid (((((Below.refl _ _).alloc (Nat.le_refl _) _).alloc (by simp) _).alloc (by simp; omega) _).alloc (by simp; omega) _)
  have SX0 : Hid (Blk ((((w.alloc (.cells #[.int .u32 s.ch, .int .u64 s.rd, .int .u64 s.m0, .int .u64 s.m1, .int .u64 s.t0, .int .u64 s.t1, .slice a n cap] 27)).alloc (.cells #[.int .u64 p0, .int .u64 p1] 24)).alloc (.cells (ocells 2 amt c id).toArray 55)).alloc (.cells #[.int .u32 0, .int .u64 0, .int .u64 0, .int .u64 0, .int .u64 0, .int .u64 0, .slice none 0 0] 27)) w.heap.size 27 [.int .u32 s.ch, .int .u64 s.rd, .int .u64 s.m0, .int .u64 s.m1, .int .u64 s.t0, .int .u64 s.t1, .slice a n cap]) := Lib.hid ((((Blk.mk_ rfl).alloc _).alloc _).alloc _)
  have PX0 : Hid (Blk ((((w.alloc (.cells #[.int .u32 s.ch, .int .u64 s.rd, .int .u64 s.m0, .int .u64 s.m1, .int .u64 s.t0, .int .u64 s.t1, .slice a n cap] 27)).alloc (.cells #[.int .u64 p0, .int .u64 p1] 24)).alloc (.cells (ocells 2 amt c id).toArray 55)).alloc (.cells #[.int .u32 0, .int .u64 0, .int .u64 0, .int .u64 0, .int .u64 0, .int .u64 0, .slice none 0 0] 27)) (w.heap.size + 1) 24 [.int .u64 p0, .int .u64 p1]) := Lib.hid (((Blk.mk_ (by simp)).alloc _).alloc _)
  have KX0 : Hid (Blk ((((w.alloc (.cells #[.int .u32 s.ch, .int .u64 s.rd, .int .u64 s.m0, .int .u64 s.m1, .int .u64 s.t0, .int .u64 s.t1, .slice a n cap] 27)).alloc (.cells #[.int .u64 p0, .int .u64 p1] 24)).alloc (.cells (ocells 2 amt c id).toArray 55)).alloc (.cells #[.int .u32 0, .int .u64 0, .int .u64 0, .int .u64 0, .int .u64 0, .int .u64 0, .slice none 0 0] 27)) (w.heap.size + 1 + 1) 55 (ocells 2 amt c id)) := Lib.hid ((Blk.mk_ (by simp)).alloc _)
  have RX0 : Hid (Blk ((((w.alloc (.cells #[.int .u32 s.ch, .int .u64 s.rd, .int .u64 s.m0, .int .u64 s.m1, .int .u64 s.t0, .int .u64 s.t1, .slice a n cap] 27)).alloc (.cells #[.int .u64 p0, .int .u64 p1] 24)).alloc (.cells (ocells 2 amt c id).toArray 55)).alloc (.cells #[.int .u32 0, .int .u64 0, .int .u64 0, .int .u64 0, .int .u64 0, .int .u64 0, .slice none 0 0] 27)) (w.heap.size + 1 + 1 + 1) 27 [.int .u32 0, .int .u64 0, .int .u64 0, .int .u64 0, .int .u64 0, .int .u64 0, .slice none 0 0]) := Lib.hid (Blk.mk_ (by simp))
  have HOK := Lib.hid hok
  have HO := Lib.hid hO
  have HC := Lib.hid hC
  have HL := Lib.hid hl
  clear hC hl hok hO
  go_enter Try.func26, Try.ntmps26
  go_upto_region 1 with fail
  generalize ((((w.alloc (.cells #[.int .u32 s.ch, .int .u64 s.rd, .int .u64 s.m0, .int .u64 s.m1, .int .u64 s.t0, .int .u64 s.t1, .slice a n cap] 27)).alloc (.cells #[.int .u64 p0, .int .u64 p1] 24)).alloc (.cells (ocells 2 amt c id).toArray 55)).alloc (.cells #[.int .u32 0, .int .u64 0, .int .u64 0, .int .u64 0, .int .u64 0, .int .u64 0, .slice none 0 0] 27)) = X0 at BX0 SX0 PX0 KX0 RX0 ⊢
  obtain ⟨gR, hgR⟩ : ∃ q, w.heap.size + 1 + 1 + 1 = q := ⟨_, rfl⟩
  obtain ⟨gk, hgk⟩ : ∃ q, w.heap.size + 1 + 1 = q := ⟨_, rfl⟩
  obtain ⟨gp, hgp⟩ : ∃ q, w.heap.size + 1 = q := ⟨_, rfl⟩
  obtain ⟨gS, hgS⟩ : ∃ q, w.heap.size = q := ⟨_, rfl⟩
  have HGR : Hid (w.heap.size ≤ gR) := Lib.hid (by omega)
  have HPK : Hid (gp < gR ∧ gk < gR ∧ gS < gR) := Lib.hid ⟨by omega, by omega, by omega⟩
  rw [hgR] at RX0 ⊢
  rw [hgk] at KX0 ⊢
  rw [hgp] at PX0 ⊢
  rw [hgS] at SX0 ⊢
  clear hgR hgk hgp hgS
  have k0 := SX0.out.cell 0
  have k1 := SX0.out.cell 1
  have k2 := SX0.out.cell 2
  have k3 := SX0.out.cell 3
  have k4 := SX0.out.cell 4
  have k5 := SX0.out.cell 5
  have k6 := SX0.out.cell 6
  simp only [List.getElem?_cons_zero, List.getElem?_cons_succ] at k0 k1 k2 k3 k4 k5 k6
  have q0 := PX0.out.cell 0
  have q1 := PX0.out.cell 1
  simp only [List.getElem?_cons_zero, List.getElem?_cons_succ] at q0 q1
  go_wp2_with fail
  clear k0 k1 k2 k3 k4 k5 k6 q0 q1
  refine ((show Calls Try.prog 16 #[.agg #[.int .u32 s.ch, .int .u64 s.rd, .int .u64 s.m0, .int .u64 s.m1, .int .u64 s.t0, .int .u64 s.t1, .slice a n cap], .agg #[.int .u64 p0, .int .u64 p1]] X0 (fun e w2 => e = .returned (.int .i64 (soundE s p0 p1)) ∧ Below X0.heap.size X0 w2) from rsound_any s.ch s.rd s.m0 s.m1 s.t0 s.t1 a n cap s.cs p0 p1 X0 (HC.out.below BX0.out) HL.out hn hp0 hp1 HO.out.eta)).mono ?_
  rintro e Y1 ⟨rfl, hB⟩
  have BY1 : Hid (Below w.heap.size w Y1) := Lib.hid (BX0.out.trans (hB.mono BX0.out.size))
  have SY1 : Hid (Blk Y1 gS 27 [.int .u32 s.ch, .int .u64 s.rd, .int .u64 s.m0, .int .u64 s.m1, .int .u64 s.t0, .int .u64 s.t1, .slice a n cap]) := Lib.hid (SX0.out.below hB SX0.out.lt)
  have PY1 : Hid (Blk Y1 gp 24 [.int .u64 p0, .int .u64 p1]) := Lib.hid (PX0.out.below hB PX0.out.lt)
  have KY1 : Hid (Blk Y1 gk 55 (ocells 2 amt c id)) := Lib.hid (KX0.out.below hB KX0.out.lt)
  have RY1 : Hid (Blk Y1 gR 27 [.int .u32 0, .int .u64 0, .int .u64 0, .int .u64 0, .int .u64 0, .int .u64 0, .slice none 0 0]) := Lib.hid (RX0.out.below hB RX0.out.lt)
  clear BX0 SX0 PX0 KX0 RX0
  clear hB
  rw [HE1.out]
  have k0 := SY1.out.cell 0
  have k1 := SY1.out.cell 1
  have k2 := SY1.out.cell 2
  have k3 := SY1.out.cell 3
  have k4 := SY1.out.cell 4
  have k5 := SY1.out.cell 5
  have k6 := SY1.out.cell 6
  simp only [List.getElem?_cons_zero, List.getElem?_cons_succ] at k0 k1 k2 k3 k4 k5 k6
  have b2 : (s.rd == 200) = false := by simpa using H2.out
  have e1 : IntKind.u64.wrap (s.rd + 1) = s.rd + 1 := IntWalk.u64_in _ ⟨by have := HO.out.rd.1; omega, by have := HSP.out.1; omega⟩
  have hw1 : Word (s.rd + 1) := ⟨by have := HO.out.rd.1; omega, by have := HSP.out.1; omega⟩
  have HTC : Hid (∀ W, Calls Try.prog 23 #[.int .u64 (s.rd + 1)] W fun e w2 => e = .returned (.int .i64 side) ∧ W = w2) := Lib.hid (fun W => by have := rturn_any (s.rd + 1) W hw1; rwa [← H3.out] at this)
  clear hw1
  have b3 : (side != side) = false := by simp
  have zb := built27 s.ch (s.rd + 1) s.m0 s.m1 s.t0 s.t1
  have HLA := heap_alloc_last Y1 (.cells #[.int .u32 0, .int .u64 0, .int .u64 0, .int .u64 0, .int .u64 0, .int .u64 0, .slice none 0 0] 27)
  have hz1 : (Try.prog.info? 27).map (·.size) = some (#[.int .u32 s.ch, .int .u64 (s.rd + 1), .int .u64 s.m0, .int .u64 s.m1, .int .u64 s.t0, .int .u64 s.t1, .slice none 0 0] : Array Value).size := info27
  go_upto_region 9 with (first | (go_at_call 23; refine (HTC.out _).mono ?_; rintro e w2 ⟨rfl, rfl⟩) | (refine wpList_store_row rfl 27 (.tmp 11) (.tmp 43) rfl Y1.heap.size #[.int .u32 s.ch, .int .u64 (s.rd + 1), .int .u64 s.m0, .int .u64 s.m1, .int .u64 s.t0, .int .u64 s.t1, .slice none 0 0] rfl rfl 27 _ HLA hz1 rfl rfl ?_; rw [World.setRow_alloc_new]))
  clear HLA hz1 zb b2 b3 e1 k0 k1 k2 k3 k4 k5 k6
  have hB : Below Y1.heap.size Y1 (Y1.alloc (.cells #[.int .u32 s.ch, .int .u64 (s.rd + 1), .int .u64 s.m0, .int .u64 s.m1, .int .u64 s.t0, .int .u64 s.t1, .slice none 0 0] 27)) := (Below.refl _ _).alloc (Nat.le_refl _) _
  have NV : Hid (Blk (Y1.alloc (.cells #[.int .u32 s.ch, .int .u64 (s.rd + 1), .int .u64 s.m0, .int .u64 s.m1, .int .u64 s.t0, .int .u64 s.t1, .slice none 0 0] 27)) Y1.heap.size 27 [.int .u32 s.ch, .int .u64 (s.rd + 1), .int .u64 s.m0, .int .u64 s.m1, .int .u64 s.t0, .int .u64 s.t1, .slice none 0 0]) := Lib.hid (Blk.new Y1 27 [.int .u32 s.ch, .int .u64 (s.rd + 1), .int .u64 s.m0, .int .u64 s.m1, .int .u64 s.t0, .int .u64 s.t1, .slice none 0 0])
  have BV : Hid (Below w.heap.size w (Y1.alloc (.cells #[.int .u32 s.ch, .int .u64 (s.rd + 1), .int .u64 s.m0, .int .u64 s.m1, .int .u64 s.t0, .int .u64 s.t1, .slice none 0 0] 27))) := Lib.hid (BY1.out.trans (hB.mono BY1.out.size))
  have SV : Hid (Blk (Y1.alloc (.cells #[.int .u32 s.ch, .int .u64 (s.rd + 1), .int .u64 s.m0, .int .u64 s.m1, .int .u64 s.t0, .int .u64 s.t1, .slice none 0 0] 27)) gS 27 [.int .u32 s.ch, .int .u64 s.rd, .int .u64 s.m0, .int .u64 s.m1, .int .u64 s.t0, .int .u64 s.t1, .slice a n cap]) := Lib.hid (SY1.out.below hB SY1.out.lt)
  have PV : Hid (Blk (Y1.alloc (.cells #[.int .u32 s.ch, .int .u64 (s.rd + 1), .int .u64 s.m0, .int .u64 s.m1, .int .u64 s.t0, .int .u64 s.t1, .slice none 0 0] 27)) gp 24 [.int .u64 p0, .int .u64 p1]) := Lib.hid (PY1.out.below hB PY1.out.lt)
  have KV : Hid (Blk (Y1.alloc (.cells #[.int .u32 s.ch, .int .u64 (s.rd + 1), .int .u64 s.m0, .int .u64 s.m1, .int .u64 s.t0, .int .u64 s.t1, .slice none 0 0] 27)) gk 55 (ocells 2 amt c id)) := Lib.hid (KY1.out.below hB KY1.out.lt)
  have RV : Hid (Blk (Y1.alloc (.cells #[.int .u32 s.ch, .int .u64 (s.rd + 1), .int .u64 s.m0, .int .u64 s.m1, .int .u64 s.t0, .int .u64 s.t1, .slice none 0 0] 27)) gR 27 [.int .u32 0, .int .u64 0, .int .u64 0, .int .u64 0, .int .u64 0, .int .u64 0, .slice none 0 0]) := Lib.hid (RY1.out.below hB RY1.out.lt)
  have HGN : Hid (gR < Y1.heap.size ∧ gp < Y1.heap.size ∧ gk < Y1.heap.size ∧ gS < Y1.heap.size ∧ w.heap.size ≤ Y1.heap.size) := Lib.hid ⟨RY1.out.lt, PY1.out.lt, KY1.out.lt, SY1.out.lt, BY1.out.size⟩
  clear hB BY1 SY1 PY1 KY1 RY1
  generalize (Y1.alloc (.cells #[.int .u32 s.ch, .int .u64 (s.rd + 1), .int .u64 s.m0, .int .u64 s.m1, .int .u64 s.t0, .int .u64 s.t1, .slice none 0 0] 27)) = V at BV SV PV KV RV NV ⊢
  generalize Y1.heap.size = gN at NV HGN ⊢
  have kk := KV.out.cell 0
  rw [ocells_0] at kk
  go_wp2
  clear kk
  have OV : Hid (V.ownsRow w.heap.size 53 36 (.slice none 0 0) (skp (-1) s.cs 0).length (cflat (skp (-1) s.cs 0))) := Lib.hid (by rw [skp_0]; exact World.ownsRow_nil _ _ _ _)
  go_loopw [13] (fun x wr => ∃ (i : Nat) (v : Value), i ≤ n ∧ x = .int .i64 i ∧ Hid (wr.ownsRow w.heap.size 53 36 v (skp (-1) s.cs i).length (cflat (skp (-1) s.cs i))) ∧ Hid (Blk wr gN 27 [.int .u32 s.ch, .int .u64 (s.rd + 1), .int .u64 s.m0, .int .u64 s.m1, .int .u64 s.t0, .int .u64 s.t1, v]) ∧ Hid (Below w.heap.size w wr) ∧ Hid (Blk wr gS 27 [.int .u32 s.ch, .int .u64 s.rd, .int .u64 s.m0, .int .u64 s.m1, .int .u64 s.t0, .int .u64 s.t1, .slice a n cap]) ∧ Hid (Blk wr gp 24 [.int .u64 p0, .int .u64 p1]) ∧ Hid (Blk wr gk 55 (ocells 2 amt c id)) ∧ Hid (Blk wr gR 27 [.int .u32 0, .int .u64 0, .int .u64 0, .int .u64 0, .int .u64 0, .int .u64 0, .slice none 0 0])) (fun x _ => n - (intOf x).toNat)
  case atStart => exact ⟨0, _, Nat.zero_le _, rfl, OV, NV, BV, SV, PV, KV, RV⟩
  case round =>
    clear OV NV BV SV PV KV RV
    obtain ⟨i, v, hi, rfl, Owr, Nwr, Bwr, Swr, Pwr, Kwr, Rwr⟩ := hrel
    by_cases hlt : i < n
    · have hi' : i < s.cs.length := by rw [HL.out]; exact hlt
      obtain ⟨b, o, c1, rfl, hb, hc, hr, hok1⟩ := HC.out.get hi'
      have HR0 := Lib.hid hr
      have HBL := Lib.hid hb
      have HOK1 := Lib.hid hok1
      have k6 := Swr.out.cell 6
      simp only [List.getElem?_cons_zero, List.getElem?_cons_succ] at k6
      have HF : Hid (skp (-1) s.cs (i + 1) = skp (-1) s.cs i ++ [c1]) := Lib.hid (by rw [skp_ne (-1) s.cs i hi' (by omega), hc])
      have hni : ((i : Int) != (-1)) = true := by have : (i : Int) ≠ (-1) := (by omega); exact bne_iff_ne.2 this
      clear hr hb hok1 hc hi'
      go_upto_region 18 with fail
      clear k6 hni
      obtain ⟨m, hm⟩ : ∃ m, (skp (-1) s.cs i).length = m := ⟨_, rfl⟩
      have hml : m ≤ 1000 := by have := skp_len ((-1)) s.cs i; omega
      rw [hm] at Owr
      have HM := Lib.hid hm
      clear hm
      obtain ⟨va, vc, htv⟩ := own_slice Owr.out
      have HTV := Lib.hid htv
      clear htv
      have hzc : (Try.prog.info? 53).map (·.size) = some c1.cells.length := by rw [HOK1.out.len]; exact info53
      obtain ⟨i0, hi0, hz0, hz1, hz2⟩ := info_parts zinfo53
      have hBz : Below wr.heap.size wr wr.drew := below_drewN (Below.refl _ _) 1
      have BX0 : Hid (Below w.heap.size w wr.drew) := Lib.hid (Bwr.out.trans (hBz.mono Bwr.out.size))
      have SX0 : Hid (Blk wr.drew gS 27 [.int .u32 s.ch, .int .u64 s.rd, .int .u64 s.m0, .int .u64 s.m1, .int .u64 s.t0, .int .u64 s.t1, .slice (some ⟨b, o, none⟩) n cap]) := Lib.hid (Swr.out.below hBz Swr.out.lt)
      have PX0 : Hid (Blk wr.drew gp 24 [.int .u64 p0, .int .u64 p1]) := Lib.hid (Pwr.out.below hBz Pwr.out.lt)
      have KX0 : Hid (Blk wr.drew gk 55 (ocells 2 amt c id)) := Lib.hid (Kwr.out.below hBz Kwr.out.lt)
      have RX0 : Hid (Blk wr.drew gR 27 [.int .u32 0, .int .u64 0, .int .u64 0, .int .u64 0, .int .u64 0, .int .u64 0, .slice none 0 0]) := Lib.hid (Rwr.out.below hBz Rwr.out.lt)
      have NX0 : Hid (Blk wr.drew gN 27 [.int .u32 s.ch, .int .u64 (s.rd + 1), .int .u64 s.m0, .int .u64 s.m1, .int .u64 s.t0, .int .u64 s.t1, v]) := Lib.hid (Nwr.out.below hBz Nwr.out.lt)
      have OX0 : Hid (wr.drew.ownsRow w.heap.size 53 36 v m (cflat (skp (-1) s.cs i))) := Lib.hid (own_keep Owr.out hBz)
      clear hBz
      refine wp_region_held_drew (S := fun w' => Blk w' gS 27 [.int .u32 s.ch, .int .u64 s.rd, .int .u64 s.m0, .int .u64 s.m1, .int .u64 s.t0, .int .u64 s.t1, .slice (some ⟨b, o, none⟩) n cap] ∧ Below w.heap.size w w') (by kernel_rfl) (⟨SX0.out, BX0.out⟩) (fun hHeld => ?_)
      generalize wr.drew = X0 at hHeld BX0 SX0 PX0 KX0 RX0 NX0 OX0 ⊢
      refine wpAnyH_take (i := 0) (v := .pointer (some ⟨gN, 6, none⟩)) rfl (by kernel_rfl) (by kernel_rfl) (by kernel_rfl) (fun _ _ _ h => h) (Or.inl ⟨by rfl, by intro w' h; go_simp⟩) hHeld ?_
      show wpAnyH _ _ _ _ _ _ _ (Act.put _ (some 69) _) _
      simp only [Act.put, List.setIfInBounds_toArray, List.set_cons_zero, List.set_cons_succ]
      refine wpAnyH_take (i := 2) (v := .pointer (some ⟨gS, 6, none⟩)) rfl (by kernel_rfl) (by kernel_rfl) (by kernel_rfl) (fun _ _ _ h => h) (Or.inl ⟨by rfl, by intro w' h; go_simp⟩) hHeld ?_
      show wpAnyH _ _ _ _ _ _ _ (Act.put _ (some 71) _) _
      simp only [Act.put, List.setIfInBounds_toArray, List.set_cons_zero, List.set_cons_succ]
      refine wpAnyH_take (i := 3) (v := .slice (some ⟨b, o, none⟩) n cap) rfl (by kernel_rfl) (by kernel_rfl) (by kernel_rfl) (fun _ _ _ h => h) (Or.inl ⟨by rfl, by intro w' h; have q6 := Blk.cell h.1 6; simp only [List.getElem?_cons_zero, List.getElem?_cons_succ] at q6; go_simp⟩) hHeld ?_
      show wpAnyH _ _ _ _ _ _ _ (Act.put _ (some 72) _) _
      simp only [Act.put, List.setIfInBounds_toArray, List.set_cons_zero, List.set_cons_succ]
      refine wpAnyH_take (i := 4) (v := .int .i64 (i : Int)) rfl (by kernel_rfl) (by kernel_rfl) (by kernel_rfl) (fun _ _ _ h => h) (Or.inl ⟨by rfl, fun w _ => by rfl⟩) hHeld ?_
      show wpAnyH _ _ _ _ _ _ _ (Act.put _ (some 73) _) _
      simp only [Act.put, List.setIfInBounds_toArray, List.set_cons_zero, List.set_cons_succ]
      refine wpAnyH_take (i := 5) (v := .pointer (some ⟨b, o + i * 36, none⟩)) rfl (by kernel_rfl) (by kernel_rfl) (by kernel_rfl) (fun _ _ _ h => h) (Or.inl ⟨by rfl, by intro w' h; go_simp⟩) hHeld ?_
      show wpAnyH _ _ _ _ _ _ _ (Act.put _ (some 74) _) _
      simp only [Act.put, List.setIfInBounds_toArray, List.set_cons_zero, List.set_cons_succ]
      refine wpAnyH_take (i := 6) (v := .agg c1.cells.toArray) rfl (by kernel_rfl) (by kernel_rfl) (by kernel_rfl) (fun _ _ _ h => h) (yieldsIf_load_mid (by rfl) 53 (.tmp 74) rfl b (o + i * 36) rfl c1.cells _ (fun w h => range_below HR0.out h.2 HBL.out) Try.underlying53 rfl hzc) hHeld ?_
      show wpAnyH _ _ _ _ _ _ _ (Act.put _ (some 75) _) _
      simp only [Act.put, List.setIfInBounds_toArray, List.set_cons_zero, List.set_cons_succ]
      refine wpAnyH_ready (rs := [1, 7]) (by kernel_rfl) (by simp) ?_
      refine AllReadyH.cons rfl (fun K hK => ?_) (AllReadyH.cons rfl (fun K hK => ?_) AllReadyH.nil)
      · refine step_ld rfl 25 (.tmp 69) rfl gN 6 rfl v (run_load_slice 25 (by decide) X0 gN 6 va _ vc 27 _ NX0.out v HTV.out rfl) ?_
        refine hK.out _ _ (⟨SX0.out, BX0.out⟩) (fun hHeld => ?_)
        clear hK K
        show wpAnyH _ _ _ _ _ _ _ (Act.put _ (some 70) _) _
        simp only [Act.put, List.setIfInBounds_toArray, List.set_cons_zero, List.set_cons_succ]
        refine wpAnyH_ready (rs := [7]) (by kernel_rfl) (by simp) ?_
        refine AllReadyH.cons rfl (fun K hK => ?_) AllReadyH.nil
        refine step_lay rfl 25 1 #[(0, .tmp 75)] rfl #[(0, .agg c1.cells.toArray)] (by simp [Act.eval]) _ _ (lay25 c1 HOK1.out X0) ?_
        have hB : Below X0.heap.size X0 (X0.alloc (.cells c1.cells.toArray 53)) := (Below.refl _ _).alloc (Nat.le_refl _) _
        have hLL := Blk.new X0 53 c1.cells
        generalize X0.alloc (.cells c1.cells.toArray 53) = X2 at hB hLL ⊢
        obtain ⟨gl, hgl⟩ : ∃ g, X0.heap.size = g := ⟨_, rfl⟩
        rw [hgl] at hLL ⊢
        clear hgl
        have BX2 : Hid (Below w.heap.size w X2) := Lib.hid (BX0.out.trans (hB.mono BX0.out.size))
        have SX2 : Hid (Blk X2 gS 27 [.int .u32 s.ch, .int .u64 s.rd, .int .u64 s.m0, .int .u64 s.m1, .int .u64 s.t0, .int .u64 s.t1, .slice (some ⟨b, o, none⟩) n cap]) := Lib.hid (SX0.out.below hB SX0.out.lt)
        have PX2 : Hid (Blk X2 gp 24 [.int .u64 p0, .int .u64 p1]) := Lib.hid (PX0.out.below hB PX0.out.lt)
        have KX2 : Hid (Blk X2 gk 55 (ocells 2 amt c id)) := Lib.hid (KX0.out.below hB KX0.out.lt)
        have RX2 : Hid (Blk X2 gR 27 [.int .u32 0, .int .u64 0, .int .u64 0, .int .u64 0, .int .u64 0, .int .u64 0, .slice none 0 0]) := Lib.hid (RX0.out.below hB RX0.out.lt)
        have NX2 : Hid (Blk X2 gN 27 [.int .u32 s.ch, .int .u64 (s.rd + 1), .int .u64 s.m0, .int .u64 s.m1, .int .u64 s.t0, .int .u64 s.t1, v]) := Lib.hid (NX0.out.below hB NX0.out.lt)
        have OX2 : Hid (X2.ownsRow w.heap.size 53 36 v m (cflat (skp (-1) s.cs i))) := Lib.hid (own_keep OX0.out hB)
        have LLX2 : Hid (Blk X2 gl 53 c1.cells) := Lib.hid (hLL)
        clear BX0 SX0 PX0 KX0 RX0 NX0 OX0 hB hLL
        refine hK.out _ _ (⟨SX2.out, BX2.out⟩) (fun hHeld => ?_)
        clear hK K
        show wpAnyH _ _ _ _ _ _ _ (Act.put _ (some 76) _) _
        simp only [Act.put, List.setIfInBounds_toArray, List.set_cons_zero, List.set_cons_succ]
        refine wpAnyH_ready (rs := [8]) (by kernel_rfl) (by simp) ?_
        refine AllReadyH.cons rfl (fun K hK => ?_) AllReadyH.nil
        refine step_own rfl (.tmp 70) (.tmp 76) 25 rfl w.heap.size 53 i0 (.agg cz) 36 64 Try.underlying25 hi0 hz0 hz1 hz2 rfl (by decide) v m _ rfl OX2.out ⟨gl, 0, none⟩ 1 1 c1.cells rfl (by rw [HOK1.out.len]) (news_of LLX2.out) c1.one (by unfold maxLen; omega) (by omega) BX2.out.size ?_
        intro v2 X3 hown hO _ _
        have hKW : ∀ q, v.ownBlock = some q → w.heap.size ≤ q := fun q hq => (OX2.out.lt q hq).1
        have hnS := own_ne OX2.out SX2.out (by decide)
        have hnP := own_ne OX2.out PX2.out (by decide)
        have hnK := own_ne OX2.out KX2.out (by decide)
        have hnR := own_ne OX2.out RX2.out (by decide)
        have hnN := own_ne OX2.out NX2.out (by decide)
        have BX3 : Hid (Below w.heap.size w X3) := Lib.hid (BX2.out.grown hO BX2.out.size hKW)
        have SX3 : Hid (Blk X3 gS 27 [.int .u32 s.ch, .int .u64 s.rd, .int .u64 s.m0, .int .u64 s.m1, .int .u64 s.t0, .int .u64 s.t1, .slice (some ⟨b, o, none⟩) n cap]) := Lib.hid (SX2.out.grown hO hnS)
        have PX3 : Hid (Blk X3 gp 24 [.int .u64 p0, .int .u64 p1]) := Lib.hid (PX2.out.grown hO hnP)
        have KX3 : Hid (Blk X3 gk 55 (ocells 2 amt c id)) := Lib.hid (KX2.out.grown hO hnK)
        have RX3 : Hid (Blk X3 gR 27 [.int .u32 0, .int .u64 0, .int .u64 0, .int .u64 0, .int .u64 0, .int .u64 0, .slice none 0 0]) := Lib.hid (RX2.out.grown hO hnR)
        have NX3 : Hid (Blk X3 gN 27 [.int .u32 s.ch, .int .u64 (s.rd + 1), .int .u64 s.m0, .int .u64 s.m1, .int .u64 s.t0, .int .u64 s.t1, v]) := Lib.hid (NX2.out.grown hO hnN)
        have OX3 : Hid (X3.ownsRow w.heap.size 53 36 v2 (m + 1) (cflat (skp (-1) s.cs i) ++ c1.cells)) := Lib.hid (hown)
        clear BX2 SX2 PX2 KX2 RX2 NX2 hO hown hKW hnS hnP hnK hnR hnN OX2 LLX2
        refine hK.out _ _ (⟨SX3.out, BX3.out⟩) (fun hHeld => ?_)
        clear hK K
        show wpAnyH _ _ _ _ _ _ _ (Act.put _ (some 77) _) _
        simp only [Act.put, List.setIfInBounds_toArray, List.set_cons_zero, List.set_cons_succ]
        refine wpAnyH_take (i := 9) (v := .pointer (some ⟨gN, 6, none⟩)) rfl (by kernel_rfl) (by kernel_rfl) (by kernel_rfl) (fun _ _ _ h => h) (Or.inl ⟨by rfl, by intro w' h; go_simp⟩) hHeld ?_
        show wpAnyH _ _ _ _ _ _ _ (Act.put _ (some 78) _) _
        simp only [Act.put, List.setIfInBounds_toArray, List.set_cons_zero, List.set_cons_succ]
        refine wpAnyH_ready (rs := [10]) (by kernel_rfl) (by simp) ?_
        refine AllReadyH.cons rfl (fun K hK => ?_) AllReadyH.nil
        obtain ⟨a2, c2, htv2⟩ := own_slice OX3.out
        refine step_cell rfl 25 (.tmp 78) (.tmp 77) rfl gN 6 rfl v2 rfl 27 _ NX3.out (run_store_slice 25 (by decide) X3 gN 6 a2 _ c2 27 _ NX3.out (by simp) v2 htv2) ?_
        clear htv2
        intro X4 hNb hO
        have hKW : ∀ q, some gN = some q → w.heap.size ≤ q := fun q hq => by injection hq with hq; have := HGN.out; omega
        have hTO : v2.ownBlock = none ∨ v2.ownBlock ≠ some gN := .inr (fun e => own_ne OX3.out NX3.out (by decide) e.symm)
        have hnS : some gS ≠ some gN := fun e => by injection e with e; have := HGN.out; omega
        have hnP : some gp ≠ some gN := fun e => by injection e with e; have := HGN.out; omega
        have hnK : some gk ≠ some gN := fun e => by injection e with e; have := HGN.out; omega
        have hnR : some gR ≠ some gN := fun e => by injection e with e; have := HGN.out; omega
        have BX4 : Hid (Below w.heap.size w X4) := Lib.hid (BX3.out.grown hO BX3.out.size hKW)
        have SX4 : Hid (Blk X4 gS 27 [.int .u32 s.ch, .int .u64 s.rd, .int .u64 s.m0, .int .u64 s.m1, .int .u64 s.t0, .int .u64 s.t1, .slice (some ⟨b, o, none⟩) n cap]) := Lib.hid (SX3.out.grown hO hnS)
        have PX4 : Hid (Blk X4 gp 24 [.int .u64 p0, .int .u64 p1]) := Lib.hid (PX3.out.grown hO hnP)
        have KX4 : Hid (Blk X4 gk 55 (ocells 2 amt c id)) := Lib.hid (KX3.out.grown hO hnK)
        have RX4 : Hid (Blk X4 gR 27 [.int .u32 0, .int .u64 0, .int .u64 0, .int .u64 0, .int .u64 0, .int .u64 0, .slice none 0 0]) := Lib.hid (RX3.out.grown hO hnR)
        have OX4 : Hid (X4.ownsRow w.heap.size 53 36 v2 (m + 1) (cflat (skp (-1) s.cs i) ++ c1.cells)) := Lib.hid (OX3.out.kept hO hTO)
        have NX4 : Hid (Blk X4 gN 27 [.int .u32 s.ch, .int .u64 (s.rd + 1), .int .u64 s.m0, .int .u64 s.m1, .int .u64 s.t0, .int .u64 s.t1, v2]) := Lib.hid (hNb)
        clear BX3 SX3 PX3 KX3 RX3 OX3 hO hNb hKW hTO hnS hnP hnK hnR NX3
        refine hK.out _ _ (⟨SX4.out, BX4.out⟩) (fun hHeld => ?_)
        clear hK K
        show wpAnyH _ _ _ _ _ _ _ (Act.put _ none _) _
        simp only [Act.put]
        refine wpAnyH_done (by kernel_rfl) ?_ _
        clear hHeld
        go_wp2
        go_roundw
        case rel => exact ⟨i + 1, v2, by omega, by go_num, Lib.hid (by rw [HF.out, List.length_append, HM.out, cflat_append, show cflat [c1] = c1.cells by simp [cflat]]; exact OX4.out), NX4, BX4, SX4, PX4, KX4, RX4⟩
        case measure => simp [intOf] <;> omega
      · refine step_lay rfl 25 1 #[(0, .tmp 75)] rfl #[(0, .agg c1.cells.toArray)] (by simp [Act.eval]) _ _ (lay25 c1 HOK1.out X0) ?_
        have hB : Below X0.heap.size X0 (X0.alloc (.cells c1.cells.toArray 53)) := (Below.refl _ _).alloc (Nat.le_refl _) _
        have hLL := Blk.new X0 53 c1.cells
        generalize X0.alloc (.cells c1.cells.toArray 53) = X1 at hB hLL ⊢
        obtain ⟨gl, hgl⟩ : ∃ g, X0.heap.size = g := ⟨_, rfl⟩
        rw [hgl] at hLL ⊢
        clear hgl
        have BX1 : Hid (Below w.heap.size w X1) := Lib.hid (BX0.out.trans (hB.mono BX0.out.size))
        have SX1 : Hid (Blk X1 gS 27 [.int .u32 s.ch, .int .u64 s.rd, .int .u64 s.m0, .int .u64 s.m1, .int .u64 s.t0, .int .u64 s.t1, .slice (some ⟨b, o, none⟩) n cap]) := Lib.hid (SX0.out.below hB SX0.out.lt)
        have PX1 : Hid (Blk X1 gp 24 [.int .u64 p0, .int .u64 p1]) := Lib.hid (PX0.out.below hB PX0.out.lt)
        have KX1 : Hid (Blk X1 gk 55 (ocells 2 amt c id)) := Lib.hid (KX0.out.below hB KX0.out.lt)
        have RX1 : Hid (Blk X1 gR 27 [.int .u32 0, .int .u64 0, .int .u64 0, .int .u64 0, .int .u64 0, .int .u64 0, .slice none 0 0]) := Lib.hid (RX0.out.below hB RX0.out.lt)
        have NX1 : Hid (Blk X1 gN 27 [.int .u32 s.ch, .int .u64 (s.rd + 1), .int .u64 s.m0, .int .u64 s.m1, .int .u64 s.t0, .int .u64 s.t1, v]) := Lib.hid (NX0.out.below hB NX0.out.lt)
        have OX1 : Hid (X1.ownsRow w.heap.size 53 36 v m (cflat (skp (-1) s.cs i))) := Lib.hid (own_keep OX0.out hB)
        have LLX1 : Hid (Blk X1 gl 53 c1.cells) := Lib.hid (hLL)
        clear BX0 SX0 PX0 KX0 RX0 NX0 OX0 hB hLL
        refine hK.out _ _ (⟨SX1.out, BX1.out⟩) (fun hHeld => ?_)
        clear hK K
        show wpAnyH _ _ _ _ _ _ _ (Act.put _ (some 76) _) _
        simp only [Act.put, List.setIfInBounds_toArray, List.set_cons_zero, List.set_cons_succ]
        refine wpAnyH_ready (rs := [1]) (by kernel_rfl) (by simp) ?_
        refine AllReadyH.cons rfl (fun K hK => ?_) AllReadyH.nil
        refine step_ld rfl 25 (.tmp 69) rfl gN 6 rfl v (run_load_slice 25 (by decide) X1 gN 6 va _ vc 27 _ NX1.out v HTV.out rfl) ?_
        refine hK.out _ _ (⟨SX1.out, BX1.out⟩) (fun hHeld => ?_)
        clear hK K
        show wpAnyH _ _ _ _ _ _ _ (Act.put _ (some 70) _) _
        simp only [Act.put, List.setIfInBounds_toArray, List.set_cons_zero, List.set_cons_succ]
        refine wpAnyH_ready (rs := [8]) (by kernel_rfl) (by simp) ?_
        refine AllReadyH.cons rfl (fun K hK => ?_) AllReadyH.nil
        refine step_own rfl (.tmp 70) (.tmp 76) 25 rfl w.heap.size 53 i0 (.agg cz) 36 64 Try.underlying25 hi0 hz0 hz1 hz2 rfl (by decide) v m _ rfl OX1.out ⟨gl, 0, none⟩ 1 1 c1.cells rfl (by rw [HOK1.out.len]) (news_of LLX1.out) c1.one (by unfold maxLen; omega) (by omega) BX1.out.size ?_
        intro v2 X3 hown hO _ _
        have hKW : ∀ q, v.ownBlock = some q → w.heap.size ≤ q := fun q hq => (OX1.out.lt q hq).1
        have hnS := own_ne OX1.out SX1.out (by decide)
        have hnP := own_ne OX1.out PX1.out (by decide)
        have hnK := own_ne OX1.out KX1.out (by decide)
        have hnR := own_ne OX1.out RX1.out (by decide)
        have hnN := own_ne OX1.out NX1.out (by decide)
        have BX3 : Hid (Below w.heap.size w X3) := Lib.hid (BX1.out.grown hO BX1.out.size hKW)
        have SX3 : Hid (Blk X3 gS 27 [.int .u32 s.ch, .int .u64 s.rd, .int .u64 s.m0, .int .u64 s.m1, .int .u64 s.t0, .int .u64 s.t1, .slice (some ⟨b, o, none⟩) n cap]) := Lib.hid (SX1.out.grown hO hnS)
        have PX3 : Hid (Blk X3 gp 24 [.int .u64 p0, .int .u64 p1]) := Lib.hid (PX1.out.grown hO hnP)
        have KX3 : Hid (Blk X3 gk 55 (ocells 2 amt c id)) := Lib.hid (KX1.out.grown hO hnK)
        have RX3 : Hid (Blk X3 gR 27 [.int .u32 0, .int .u64 0, .int .u64 0, .int .u64 0, .int .u64 0, .int .u64 0, .slice none 0 0]) := Lib.hid (RX1.out.grown hO hnR)
        have NX3 : Hid (Blk X3 gN 27 [.int .u32 s.ch, .int .u64 (s.rd + 1), .int .u64 s.m0, .int .u64 s.m1, .int .u64 s.t0, .int .u64 s.t1, v]) := Lib.hid (NX1.out.grown hO hnN)
        have OX3 : Hid (X3.ownsRow w.heap.size 53 36 v2 (m + 1) (cflat (skp (-1) s.cs i) ++ c1.cells)) := Lib.hid (hown)
        clear BX1 SX1 PX1 KX1 RX1 NX1 hO hown hKW hnS hnP hnK hnR hnN OX1 LLX1
        refine hK.out _ _ (⟨SX3.out, BX3.out⟩) (fun hHeld => ?_)
        clear hK K
        show wpAnyH _ _ _ _ _ _ _ (Act.put _ (some 77) _) _
        simp only [Act.put, List.setIfInBounds_toArray, List.set_cons_zero, List.set_cons_succ]
        refine wpAnyH_take (i := 9) (v := .pointer (some ⟨gN, 6, none⟩)) rfl (by kernel_rfl) (by kernel_rfl) (by kernel_rfl) (fun _ _ _ h => h) (Or.inl ⟨by rfl, by intro w' h; go_simp⟩) hHeld ?_
        show wpAnyH _ _ _ _ _ _ _ (Act.put _ (some 78) _) _
        simp only [Act.put, List.setIfInBounds_toArray, List.set_cons_zero, List.set_cons_succ]
        refine wpAnyH_ready (rs := [10]) (by kernel_rfl) (by simp) ?_
        refine AllReadyH.cons rfl (fun K hK => ?_) AllReadyH.nil
        obtain ⟨a2, c2, htv2⟩ := own_slice OX3.out
        refine step_cell rfl 25 (.tmp 78) (.tmp 77) rfl gN 6 rfl v2 rfl 27 _ NX3.out (run_store_slice 25 (by decide) X3 gN 6 a2 _ c2 27 _ NX3.out (by simp) v2 htv2) ?_
        clear htv2
        intro X4 hNb hO
        have hKW : ∀ q, some gN = some q → w.heap.size ≤ q := fun q hq => by injection hq with hq; have := HGN.out; omega
        have hTO : v2.ownBlock = none ∨ v2.ownBlock ≠ some gN := .inr (fun e => own_ne OX3.out NX3.out (by decide) e.symm)
        have hnS : some gS ≠ some gN := fun e => by injection e with e; have := HGN.out; omega
        have hnP : some gp ≠ some gN := fun e => by injection e with e; have := HGN.out; omega
        have hnK : some gk ≠ some gN := fun e => by injection e with e; have := HGN.out; omega
        have hnR : some gR ≠ some gN := fun e => by injection e with e; have := HGN.out; omega
        have BX4 : Hid (Below w.heap.size w X4) := Lib.hid (BX3.out.grown hO BX3.out.size hKW)
        have SX4 : Hid (Blk X4 gS 27 [.int .u32 s.ch, .int .u64 s.rd, .int .u64 s.m0, .int .u64 s.m1, .int .u64 s.t0, .int .u64 s.t1, .slice (some ⟨b, o, none⟩) n cap]) := Lib.hid (SX3.out.grown hO hnS)
        have PX4 : Hid (Blk X4 gp 24 [.int .u64 p0, .int .u64 p1]) := Lib.hid (PX3.out.grown hO hnP)
        have KX4 : Hid (Blk X4 gk 55 (ocells 2 amt c id)) := Lib.hid (KX3.out.grown hO hnK)
        have RX4 : Hid (Blk X4 gR 27 [.int .u32 0, .int .u64 0, .int .u64 0, .int .u64 0, .int .u64 0, .int .u64 0, .slice none 0 0]) := Lib.hid (RX3.out.grown hO hnR)
        have OX4 : Hid (X4.ownsRow w.heap.size 53 36 v2 (m + 1) (cflat (skp (-1) s.cs i) ++ c1.cells)) := Lib.hid (OX3.out.kept hO hTO)
        have NX4 : Hid (Blk X4 gN 27 [.int .u32 s.ch, .int .u64 (s.rd + 1), .int .u64 s.m0, .int .u64 s.m1, .int .u64 s.t0, .int .u64 s.t1, v2]) := Lib.hid (hNb)
        clear BX3 SX3 PX3 KX3 RX3 OX3 hO hNb hKW hTO hnS hnP hnK hnR NX3
        refine hK.out _ _ (⟨SX4.out, BX4.out⟩) (fun hHeld => ?_)
        clear hK K
        show wpAnyH _ _ _ _ _ _ _ (Act.put _ none _) _
        simp only [Act.put]
        refine wpAnyH_done (by kernel_rfl) ?_ _
        clear hHeld
        go_wp2
        go_roundw
        case rel => exact ⟨i + 1, v2, by omega, by go_num, Lib.hid (by rw [HF.out, List.length_append, HM.out, cflat_append, show cflat [c1] = c1.cells by simp [cflat]]; exact OX4.out), NX4, BX4, SX4, PX4, KX4, RX4⟩
        case measure => simp [intOf] <;> omega
    · obtain rfl : n = i := by omega
      have k6 := Swr.out.cell 6
      simp only [List.getElem?_cons_zero, List.getElem?_cons_succ] at k6
      go_upto_region 20 with fail
      clear k6
      have hO := Owr.out
      have hN := Nwr.out
      have hsk : skp (-1) s.cs n = s.cs := by rw [← HL.out]; exact skp_all (-1) s.cs (by decide)
      rw [hsk] at hO
      clear Owr Nwr hsk
      obtain ⟨m, hm⟩ : ∃ q, s.cs.length = q := ⟨_, rfl⟩
      rw [hm] at hO
      have HM := Lib.hid hm
      have hml : m ≤ 1000 := by have := HL.out; omega
      obtain ⟨va, vc, rfl⟩ := own_slice hO
      have Owr := Lib.hid hO
      have Nwr := Lib.hid hN
      clear hO hN hm
      have kk := Kwr.out.cell 0
      rw [ocells_0] at kk
      have ks := Kwr.out.cell 3
      rw [ocells_3] at ks
      obtain ⟨y, hy⟩ : ∃ y, c.side = y := ⟨_, rfl⟩
      rw [hy] at ks
      have HY := Lib.hid hy
      clear hy
      by_cases hsd : y = side
      case neg =>
        have bs : (y != side) = true := by simpa using hsd
        have HNZ : Hid (¬ (1 : Int) = 0) := Lib.hid (by decide)
        have HDE : doE s.nxt p0 p1 side 2 amt c id = 1 := by rw [doE_2]; exact lockE_arg (by rw [HY.out]; exact hsd)
        have HT : Hid (nextE s p0 p1 side 2 amt c id = 1) := Lib.hid (by rw [nextE_4 HE1.out H2.out H3.out (by rw [HDE]; decide), HDE])
        clear hsd HDE
        have r0 := Rwr.out.cell 0
        have r1 := Rwr.out.cell 1
        have r2 := Rwr.out.cell 2
        have r3 := Rwr.out.cell 3
        have r4 := Rwr.out.cell 4
        have r5 := Rwr.out.cell 5
        have r6 := Rwr.out.cell 6
        simp only [List.getElem?_cons_zero, List.getElem?_cons_succ] at r0 r1 r2 r3 r4 r5 r6
        have f0 := Rwr.out.frozen 0
        have f1 := Rwr.out.frozen 1
        have f2 := Rwr.out.frozen 2
        have f3 := Rwr.out.frozen 3
        have f4 := Rwr.out.frozen 4
        have f5 := Rwr.out.frozen 5
        have f6 := Rwr.out.frozen 6
        have z27 := zero27
        go_wp2
        have hRR : Blk ((((((((wr.setCell ⟨gR, 0, none⟩ (.int .u32 0)).setCell ⟨gR, 1, none⟩ (.int .u64 0)).setCell ⟨gR, 2, none⟩ (.int .u64 0)).setCell ⟨gR, 3, none⟩ (.int .u64 0)).setCell ⟨gR, 4, none⟩ (.int .u64 0)).setCell ⟨gR, 5, none⟩ (.int .u64 0)).setCell ⟨gR, 6, none⟩ (.slice none 0 0))) gR 27 [.int .u32 0, .int .u64 0, .int .u64 0, .int .u64 0, .int .u64 0, .int .u64 0, .slice none 0 0] := (((((((Rwr.out.set_ 0 _).set_ 1 _).set_ 2 _).set_ 3 _).set_ 4 _).set_ 5 _).set_ 6 _)
        exact bodyPost_ret (results_ct Try.results26 _ _ gR 27 [.int .u32 0, .int .u64 0, .int .u64 0, .int .u64 0, .int .u64 0, .int .u64 0, .slice none 0 0] _ rfl hRR Try.underlying27 rfl info27) rfl (by rw [show nextS s p0 p1 side 2 amt c id = st0 from if_neg (by rw [HT.out]; exact HNZ.out), HT.out]; exact ⟨none, 0, 0, rfl, World.ownsRow_nil _ _ _ _, rfl, (((((((Bwr.out.setCell (p := ⟨gR, 0, none⟩) HGR.out _).setCell (p := ⟨gR, 1, none⟩) HGR.out _).setCell (p := ⟨gR, 2, none⟩) HGR.out _).setCell (p := ⟨gR, 3, none⟩) HGR.out _).setCell (p := ⟨gR, 4, none⟩) HGR.out _).setCell (p := ⟨gR, 5, none⟩) HGR.out _).setCell (p := ⟨gR, 6, none⟩) HGR.out _)⟩)
      have bs : (y != side) = false := by simp [hsd]
      have HSD2 : Hid (c.side = side) := Lib.hid (HY.out.trans hsd)
      clear hsd
      go_upto_region 35 with fail
      clear bs ks kk
      have k0 := Swr.out.cell 0
      have k1 := Swr.out.cell 1
      have k2 := Swr.out.cell 2
      have k3 := Swr.out.cell 3
      have k4 := Swr.out.cell 4
      have k5 := Swr.out.cell 5
      have k6 := Swr.out.cell 6
      simp only [List.getElem?_cons_zero, List.getElem?_cons_succ] at k0 k1 k2 k3 k4 k5 k6
      have ka := Kwr.out.cell 2
      rw [ocells_2] at ka
      go_wp2_with fail
      clear k0 k1 k2 k3 k4 k5 k6 ka
      refine (rfind_any s.ch s.rd s.m0 s.m1 s.t0 s.t1 a n cap s.cs c.id wr (HC.out.below Bwr.out) HL.out hn).mono ?_
      rintro e Z ⟨rfl, hB⟩
      have BZ := Lib.hid (Bwr.out.trans (hB.mono Bwr.out.size))
      have SZ := Lib.hid (Swr.out.below hB Swr.out.lt)
      have PZ := Lib.hid (Pwr.out.below hB Pwr.out.lt)
      have KZ := Lib.hid (Kwr.out.below hB Kwr.out.lt)
      have RZ := Lib.hid (Rwr.out.below hB Rwr.out.lt)
      have NZ := Lib.hid (Nwr.out.below hB Nwr.out.lt)
      have OZ := Lib.hid (own_keep Owr.out hB)
      clear hB Bwr Swr Pwr Kwr Rwr Nwr Owr
      by_cases hf : 0 ≤ findV c.id s.cs
      case pos =>
        have df : decide (0 ≤ findV c.id s.cs) = true := decide_eq_true hf
        have HNZ : Hid (¬ (7 : Int) = 0) := Lib.hid (by decide)
        have HDE : doE s.nxt p0 p1 side 2 amt c id = 7 := by rw [doE_2]; exact lockE_twice HSD2.out hf
        have HT : Hid (nextE s p0 p1 side 2 amt c id = 7) := Lib.hid (by rw [nextE_4 HE1.out H2.out H3.out (by rw [HDE]; decide), HDE])
        clear hf HDE
        have r0 := RZ.out.cell 0
        have r1 := RZ.out.cell 1
        have r2 := RZ.out.cell 2
        have r3 := RZ.out.cell 3
        have r4 := RZ.out.cell 4
        have r5 := RZ.out.cell 5
        have r6 := RZ.out.cell 6
        simp only [List.getElem?_cons_zero, List.getElem?_cons_succ] at r0 r1 r2 r3 r4 r5 r6
        have f0 := RZ.out.frozen 0
        have f1 := RZ.out.frozen 1
        have f2 := RZ.out.frozen 2
        have f3 := RZ.out.frozen 3
        have f4 := RZ.out.frozen 4
        have f5 := RZ.out.frozen 5
        have f6 := RZ.out.frozen 6
        have z27 := zero27
        go_wp2
        have hRR : Blk ((((((((Z.setCell ⟨gR, 0, none⟩ (.int .u32 0)).setCell ⟨gR, 1, none⟩ (.int .u64 0)).setCell ⟨gR, 2, none⟩ (.int .u64 0)).setCell ⟨gR, 3, none⟩ (.int .u64 0)).setCell ⟨gR, 4, none⟩ (.int .u64 0)).setCell ⟨gR, 5, none⟩ (.int .u64 0)).setCell ⟨gR, 6, none⟩ (.slice none 0 0))) gR 27 [.int .u32 0, .int .u64 0, .int .u64 0, .int .u64 0, .int .u64 0, .int .u64 0, .slice none 0 0] := (((((((RZ.out.set_ 0 _).set_ 1 _).set_ 2 _).set_ 3 _).set_ 4 _).set_ 5 _).set_ 6 _)
        exact bodyPost_ret (results_ct Try.results26 _ _ gR 27 [.int .u32 0, .int .u64 0, .int .u64 0, .int .u64 0, .int .u64 0, .int .u64 0, .slice none 0 0] _ rfl hRR Try.underlying27 rfl info27) rfl (by rw [show nextS s p0 p1 side 2 amt c id = st0 from if_neg (by rw [HT.out]; exact HNZ.out), HT.out]; exact ⟨none, 0, 0, rfl, World.ownsRow_nil _ _ _ _, rfl, (((((((BZ.out.setCell (p := ⟨gR, 0, none⟩) HGR.out _).setCell (p := ⟨gR, 1, none⟩) HGR.out _).setCell (p := ⟨gR, 2, none⟩) HGR.out _).setCell (p := ⟨gR, 3, none⟩) HGR.out _).setCell (p := ⟨gR, 4, none⟩) HGR.out _).setCell (p := ⟨gR, 5, none⟩) HGR.out _).setCell (p := ⟨gR, 6, none⟩) HGR.out _)⟩)
      have df : decide (0 ≤ findV c.id s.cs) = false := decide_eq_false hf
      have HF0 := Lib.hid hf
      clear hf
      have k0 := SZ.out.cell 0
      have k1 := SZ.out.cell 1
      have k2 := SZ.out.cell 2
      have k3 := SZ.out.cell 3
      have k4 := SZ.out.cell 4
      have k5 := SZ.out.cell 5
      have k6 := SZ.out.cell 6
      simp only [List.getElem?_cons_zero, List.getElem?_cons_succ] at k0 k1 k2 k3 k4 k5 k6
      by_cases h8 : (n : Int) = 8
      case pos =>
        have b8 : ((n : Int) == 8) = true := by simpa using h8
        have HNZ : Hid (¬ (4 : Int) = 0) := Lib.hid (by decide)
        have HDE : doE s.nxt p0 p1 side 2 amt c id = 4 := by rw [doE_2]; exact lockE_full HSD2.out (show ¬ 0 ≤ findV c.id s.nxt.cs from by have := HF0.out; show ¬ 0 ≤ findV c.id s.cs; omega) (by show 8 ≤ s.cs.length; have := HL.out; omega)
        have HT : Hid (nextE s p0 p1 side 2 amt c id = 4) := Lib.hid (by rw [nextE_4 HE1.out H2.out H3.out (by rw [HDE]; decide), HDE])
        clear h8 HDE
        have r0 := RZ.out.cell 0
        have r1 := RZ.out.cell 1
        have r2 := RZ.out.cell 2
        have r3 := RZ.out.cell 3
        have r4 := RZ.out.cell 4
        have r5 := RZ.out.cell 5
        have r6 := RZ.out.cell 6
        simp only [List.getElem?_cons_zero, List.getElem?_cons_succ] at r0 r1 r2 r3 r4 r5 r6
        have f0 := RZ.out.frozen 0
        have f1 := RZ.out.frozen 1
        have f2 := RZ.out.frozen 2
        have f3 := RZ.out.frozen 3
        have f4 := RZ.out.frozen 4
        have f5 := RZ.out.frozen 5
        have f6 := RZ.out.frozen 6
        have z27 := zero27
        go_wp2
        have hRR : Blk ((((((((Z.setCell ⟨gR, 0, none⟩ (.int .u32 0)).setCell ⟨gR, 1, none⟩ (.int .u64 0)).setCell ⟨gR, 2, none⟩ (.int .u64 0)).setCell ⟨gR, 3, none⟩ (.int .u64 0)).setCell ⟨gR, 4, none⟩ (.int .u64 0)).setCell ⟨gR, 5, none⟩ (.int .u64 0)).setCell ⟨gR, 6, none⟩ (.slice none 0 0))) gR 27 [.int .u32 0, .int .u64 0, .int .u64 0, .int .u64 0, .int .u64 0, .int .u64 0, .slice none 0 0] := (((((((RZ.out.set_ 0 _).set_ 1 _).set_ 2 _).set_ 3 _).set_ 4 _).set_ 5 _).set_ 6 _)
        exact bodyPost_ret (results_ct Try.results26 _ _ gR 27 [.int .u32 0, .int .u64 0, .int .u64 0, .int .u64 0, .int .u64 0, .int .u64 0, .slice none 0 0] _ rfl hRR Try.underlying27 rfl info27) rfl (by rw [show nextS s p0 p1 side 2 amt c id = st0 from if_neg (by rw [HT.out]; exact HNZ.out), HT.out]; exact ⟨none, 0, 0, rfl, World.ownsRow_nil _ _ _ _, rfl, (((((((BZ.out.setCell (p := ⟨gR, 0, none⟩) HGR.out _).setCell (p := ⟨gR, 1, none⟩) HGR.out _).setCell (p := ⟨gR, 2, none⟩) HGR.out _).setCell (p := ⟨gR, 3, none⟩) HGR.out _).setCell (p := ⟨gR, 4, none⟩) HGR.out _).setCell (p := ⟨gR, 5, none⟩) HGR.out _).setCell (p := ⟨gR, 6, none⟩) HGR.out _)⟩)
      have b8 : ((n : Int) == 8) = false := by simpa using h8
      have H8 : Hid (¬ 8 ≤ s.nxt.cs.length) := Lib.hid (by show ¬ 8 ≤ s.cs.length; have := HL.out; have := HSP.out.2.1; omega)
      clear h8
      go_upto_region 39 with fail
      clear b8 df k0 k1 k2 k3 k4 k5 k6
      have k0 := SZ.out.cell 0
      have k1 := SZ.out.cell 1
      have k2 := SZ.out.cell 2
      have k3 := SZ.out.cell 3
      have k4 := SZ.out.cell 4
      have k5 := SZ.out.cell 5
      have k6 := SZ.out.cell 6
      simp only [List.getElem?_cons_zero, List.getElem?_cons_succ] at k0 k1 k2 k3 k4 k5 k6
      have q0 := PZ.out.cell 0
      have q1 := PZ.out.cell 1
      simp only [List.getElem?_cons_zero, List.getElem?_cons_succ] at q0 q1
      have ka := KZ.out.cell 4
      rw [ocells_4] at ka
      go_wp2_with fail
      clear k0 k1 k2 k3 k4 k5 k6 q0 q1 ka
      refine (room_any s a n cap p0 p1 side c.amt Z (HC.out.below BZ.out) HL.out hn hp0 hp1 HO.out).mono ?_
      rintro e Y ⟨rfl, hB⟩
      have BY := Lib.hid (BZ.out.trans (hB.mono BZ.out.size))
      have SY := Lib.hid (SZ.out.below hB SZ.out.lt)
      have PY := Lib.hid (PZ.out.below hB PZ.out.lt)
      have KY := Lib.hid (KZ.out.below hB KZ.out.lt)
      have RY := Lib.hid (RZ.out.below hB RZ.out.lt)
      have NY := Lib.hid (NZ.out.below hB NZ.out.lt)
      have OY := Lib.hid (own_keep OZ.out hB)
      clear hB BZ SZ PZ KZ RZ NZ OZ
      obtain ⟨E2, hE2⟩ : ∃ x, spE (freeF s p0 p1 side) c.amt = x := ⟨_, rfl⟩
      rw [hE2]
      have HE2 := Lib.hid hE2
      clear hE2
      have HDE : Hid (doE s.nxt p0 p1 side 2 amt c id = E2) := Lib.hid (by rw [doE_2, lockE_sp HSD2.out (show ¬ 0 ≤ findV c.id s.nxt.cs from by have := HF0.out; show ¬ 0 ≤ findV c.id s.cs; omega) H8.out, show freeF s.nxt p0 p1 side = freeF s p0 p1 side from rfl, HE2.out])
      by_cases h4 : E2 = 0
      case neg =>
        have b4 : (E2 != 0) = true := by simpa using h4
        have HNZ : Hid (¬ E2 = 0) := Lib.hid h4
        have HT : Hid (nextE s p0 p1 side 2 amt c id = E2) := Lib.hid (by rw [nextE_4 HE1.out H2.out H3.out (by rw [HDE.out]; exact h4), HDE.out])
        clear h4
        have r0 := RY.out.cell 0
        have r1 := RY.out.cell 1
        have r2 := RY.out.cell 2
        have r3 := RY.out.cell 3
        have r4 := RY.out.cell 4
        have r5 := RY.out.cell 5
        have r6 := RY.out.cell 6
        simp only [List.getElem?_cons_zero, List.getElem?_cons_succ] at r0 r1 r2 r3 r4 r5 r6
        have f0 := RY.out.frozen 0
        have f1 := RY.out.frozen 1
        have f2 := RY.out.frozen 2
        have f3 := RY.out.frozen 3
        have f4 := RY.out.frozen 4
        have f5 := RY.out.frozen 5
        have f6 := RY.out.frozen 6
        have z27 := zero27
        go_wp2
        have hRR : Blk ((((((((Y.setCell ⟨gR, 0, none⟩ (.int .u32 0)).setCell ⟨gR, 1, none⟩ (.int .u64 0)).setCell ⟨gR, 2, none⟩ (.int .u64 0)).setCell ⟨gR, 3, none⟩ (.int .u64 0)).setCell ⟨gR, 4, none⟩ (.int .u64 0)).setCell ⟨gR, 5, none⟩ (.int .u64 0)).setCell ⟨gR, 6, none⟩ (.slice none 0 0))) gR 27 [.int .u32 0, .int .u64 0, .int .u64 0, .int .u64 0, .int .u64 0, .int .u64 0, .slice none 0 0] := (((((((RY.out.set_ 0 _).set_ 1 _).set_ 2 _).set_ 3 _).set_ 4 _).set_ 5 _).set_ 6 _)
        exact bodyPost_ret (results_ct Try.results26 _ _ gR 27 [.int .u32 0, .int .u64 0, .int .u64 0, .int .u64 0, .int .u64 0, .int .u64 0, .slice none 0 0] _ rfl hRR Try.underlying27 rfl info27) rfl (by rw [show nextS s p0 p1 side 2 amt c id = st0 from if_neg (by rw [HT.out]; exact HNZ.out), HT.out]; exact ⟨none, 0, 0, rfl, World.ownsRow_nil _ _ _ _, rfl, (((((((BY.out.setCell (p := ⟨gR, 0, none⟩) HGR.out _).setCell (p := ⟨gR, 1, none⟩) HGR.out _).setCell (p := ⟨gR, 2, none⟩) HGR.out _).setCell (p := ⟨gR, 3, none⟩) HGR.out _).setCell (p := ⟨gR, 4, none⟩) HGR.out _).setCell (p := ⟨gR, 5, none⟩) HGR.out _).setCell (p := ⟨gR, 6, none⟩) HGR.out _)⟩)
      subst h4
      have HD0 : Hid (doE s.nxt p0 p1 side 2 amt c id = 0) := Lib.hid HDE.out
      have HS2 : Hid (doS s.nxt side 2 amt c id = (⟨s.ch, s.rd + 1, s.m0, s.m1, s.t0, s.t1, s.cs ++ [c]⟩ : St)) := Lib.hid (doS_2 _ _ _ _ _)
      go_upto_region 42 with fail
      have hzc : (Try.prog.info? 53).map (·.size) = some c.cells.length := by rw [HOK.out.len]; exact info53
      obtain ⟨i0, hi0, hz0, hz1, hz2⟩ := info_parts zinfo53
      have RNG : Y.rangeAt gk 2 c.cells := by
        have h := ocells_c 2 amt c id HOK.out KY.out.all
        rwa [Nat.zero_add] at h
      have hB : Below Y.heap.size Y (Y.alloc (.cells c.cells.toArray 53)) := (Below.refl _ _).alloc (Nat.le_refl _) _
      have hLL := Blk.new Y 53 c.cells
      have NYK := NY
      have BV1 := Lib.hid (BY.out.trans (hB.mono BY.out.size))
      have SV1 := Lib.hid (SY.out.below hB SY.out.lt)
      have PV1 := Lib.hid (PY.out.below hB PY.out.lt)
      have KV1 := Lib.hid (KY.out.below hB KY.out.lt)
      have RV1 := Lib.hid (RY.out.below hB RY.out.lt)
      have NV1 := Lib.hid (NY.out.below hB NY.out.lt)
      have OV1 := Lib.hid (own_keep OY.out hB)
      clear hB BY SY PY KY RY NY OY
      obtain ⟨v2, W2, happ, hown, hO, _, _⟩ := run_append_own_at (P := Try.prog) (Y.alloc (.cells c.cells.toArray 53)) w.heap.size 25 0 53 i0 (.agg cz) 36 64 Try.underlying25 hi0 hz0 hz1 hz2 rfl (by decide) (.slice va m vc) m _ OV1.out ⟨Y.heap.size, 0, none⟩ 1 1 c.cells (by rw [HOK.out.len]) (news_of hLL) c.one (by unfold maxLen; omega) (by omega) BV1.out.size
      obtain ⟨a2, c2, rfl⟩ := own_slice hown
      have HAP := Lib.hid happ
      have hKW : ∀ q, (Value.slice va m vc).ownBlock = some q → w.heap.size ≤ q := fun q hq => (OV1.out.lt q hq).1
      have hnS := own_ne OV1.out SV1.out (by decide)
      have hnP := own_ne OV1.out PV1.out (by decide)
      have hnK := own_ne OV1.out KV1.out (by decide)
      have hnR := own_ne OV1.out RV1.out (by decide)
      have hnN := own_ne OV1.out NV1.out (by decide)
      have B2 := Lib.hid (BV1.out.grown hO BV1.out.size hKW)
      have S2 := Lib.hid (SV1.out.grown hO hnS)
      have P2 := Lib.hid (PV1.out.grown hO hnP)
      have K2 := Lib.hid (KV1.out.grown hO hnK)
      have R2 := Lib.hid (RV1.out.grown hO hnR)
      have N2 := Lib.hid (NV1.out.grown hO hnN)
      have O2 := Lib.hid hown
      clear happ hown hO hKW hLL hnS hnP hnK hnR hnN BV1 SV1 PV1 KV1 RV1 NV1 OV1
      have hlay := lay25 c HOK.out Y
      have n6 := NYK.out.cell 6
      have m6 := N2.out.cell 6
      have f6 := N2.out.frozen 6
      simp only [List.getElem?_cons_zero, List.getElem?_cons_succ] at n6 m6
      refine wp_region_lit ?_
      refine wpList_val rfl (.pointer (some ⟨gN, 6, none⟩)) Y (by go_simp) ?_
      show wpList _ _ _ _ (Act.put _ (some 158) _) _
      simp only [Act.put, List.setIfInBounds_toArray, List.set_cons_zero, List.set_cons_succ]
      refine wpList_ld rfl 25 (.tmp 158) rfl gN 6 rfl (.slice va m vc) (run_load_slice 25 (by decide) Y gN 6 va m vc 27 _ NYK.out (.slice va m vc) rfl rfl) ?_
      show wpList _ _ _ _ (Act.put _ (some 159) _) _
      simp only [Act.put, List.setIfInBounds_toArray, List.set_cons_zero, List.set_cons_succ]
      refine wpList_val rfl (.pointer (some ⟨gk, 2, none⟩)) Y (by go_simp) ?_
      show wpList _ _ _ _ (Act.put _ (some 160) _) _
      simp only [Act.put, List.setIfInBounds_toArray, List.set_cons_zero, List.set_cons_succ]
      refine wpList_load_mid rfl 53 (.tmp 160) rfl gk 2 rfl c.cells _ RNG Try.underlying53 rfl hzc ?_
      show wpList _ _ _ _ (Act.put _ (some 161) _) _
      simp only [Act.put, List.setIfInBounds_toArray, List.set_cons_zero, List.set_cons_succ]
      refine wpList_lay_v rfl 25 1 #[(0, .tmp 161)] rfl #[(0, .agg c.cells.toArray)] (by simp [Act.eval]) _ _ hlay ?_
      show wpList _ _ _ _ (Act.put _ (some 162) _) _
      simp only [Act.put, List.setIfInBounds_toArray, List.set_cons_zero, List.set_cons_succ]
      refine wpList_append_run_ rfl (.tmp 159) (.tmp 162) 25 25 rfl (.slice a2 (m + 1) c2) W2 (fun ty => HAP.out) ?_
      show wpList _ _ _ _ (Act.put _ (some 163) _) _
      simp only [Act.put, List.setIfInBounds_toArray, List.set_cons_zero, List.set_cons_succ]
      refine wpList_val rfl (.pointer (some ⟨gN, 6, none⟩)) W2 (by go_simp) ?_
      show wpList _ _ _ _ (Act.put _ (some 164) _) _
      simp only [Act.put, List.setIfInBounds_toArray, List.set_cons_zero, List.set_cons_succ]
      refine wpList_cell rfl 25 (.tmp 164) (.tmp 163) rfl gN 6 rfl (.slice a2 (m + 1) c2) rfl (run_store_slice 25 (by decide) W2 gN 6 a2 (m + 1) c2 27 _ N2.out (by simp) (.slice a2 (m + 1) c2) rfl) ?_
      show wpList _ _ _ _ (Act.put _ none _) _
      simp only [Act.put]
      refine wpList_nil ?_
      go_upto_region 48 with fail
      clear n6 m6 f6 NYK RNG hzc hlay
      have hO := only_setCell (p := ⟨gN, 6, none⟩) (only_refl W2 (some gN)) (.inl rfl) (.slice a2 (m + 1) c2)
      have hKW : ∀ q, some gN = some q → w.heap.size ≤ q := fun q hq => by injection hq with hq; have := HGN.out; omega
      have hTO : (Value.slice a2 (m + 1) c2).ownBlock = none ∨ (Value.slice a2 (m + 1) c2).ownBlock ≠ some gN := .inr (fun e => own_ne O2.out N2.out (by decide) e.symm)
      have hnS : some gS ≠ some gN := fun e => by injection e with e; have := HGN.out; omega
      have hnP : some gp ≠ some gN := fun e => by injection e with e; have := HGN.out; omega
      have hnK : some gk ≠ some gN := fun e => by injection e with e; have := HGN.out; omega
      have hnR : some gR ≠ some gN := fun e => by injection e with e; have := HGN.out; omega
      have BF : Hid (Below w.heap.size w (W2.setCell ⟨gN, 6, none⟩ (.slice a2 (m + 1) c2))) := Lib.hid (B2.out.grown hO B2.out.size hKW)
      have SF : Hid (Blk (W2.setCell ⟨gN, 6, none⟩ (.slice a2 (m + 1) c2)) gS 27 [.int .u32 s.ch, .int .u64 s.rd, .int .u64 s.m0, .int .u64 s.m1, .int .u64 s.t0, .int .u64 s.t1, .slice a n cap]) := Lib.hid (S2.out.grown hO hnS)
      have PF : Hid (Blk (W2.setCell ⟨gN, 6, none⟩ (.slice a2 (m + 1) c2)) gp 24 [.int .u64 p0, .int .u64 p1]) := Lib.hid (P2.out.grown hO hnP)
      have KF : Hid (Blk (W2.setCell ⟨gN, 6, none⟩ (.slice a2 (m + 1) c2)) gk 55 (ocells 2 amt c id)) := Lib.hid (K2.out.grown hO hnK)
      have RF : Hid (Blk (W2.setCell ⟨gN, 6, none⟩ (.slice a2 (m + 1) c2)) gR 27 [.int .u32 0, .int .u64 0, .int .u64 0, .int .u64 0, .int .u64 0, .int .u64 0, .slice none 0 0]) := Lib.hid (R2.out.grown hO hnR)
      have NF : Hid (Blk (W2.setCell ⟨gN, 6, none⟩ (.slice a2 (m + 1) c2)) gN 27 [.int .u32 s.ch, .int .u64 (s.rd + 1), .int .u64 s.m0, .int .u64 s.m1, .int .u64 s.t0, .int .u64 s.t1, .slice a2 (m + 1) c2]) := Lib.hid (N2.out.set_ 6 _)
      have OF : Hid ((W2.setCell ⟨gN, 6, none⟩ (.slice a2 (m + 1) c2)).ownsRow w.heap.size 53 36 (.slice a2 (m + 1) c2) (m + 1) (cflat s.cs ++ c.cells)) := Lib.hid (O2.out.kept hO hTO)
      clear hO hKW hTO hnS hnP hnK hnR B2 S2 P2 K2 R2 N2 O2 HAP
      generalize (W2.setCell ⟨gN, 6, none⟩ (.slice a2 (m + 1) c2)) = F at BF SF PF KF RF NF OF ⊢
      rw [show cflat s.cs ++ c.cells = cflat (s.cs ++ [c]) by rw [cflat_append]; simp [cflat]] at OF
      obtain ⟨m1, hm1⟩ : ∃ q, m + 1 = q := ⟨_, rfl⟩
      rw [hm1] at OF NF
      have hml1 : m1 ≤ 1000 := by have := HSP.out.2.1; have := HM.out; omega
      have HS2L : Hid ((⟨s.ch, s.rd + 1, s.m0, s.m1, s.t0, s.t1, s.cs ++ [c]⟩ : St).cs.length = m1) := Lib.hid (by show (s.cs ++ [c]).length = m1; rw [List.length_append, HM.out]; exact hm1)
      have HS2C : Hid (∀ d ∈ (⟨s.ch, s.rd + 1, s.m0, s.m1, s.t0, s.t1, s.cs ++ [c]⟩ : St).cs, d.Ok) := Lib.hid (fun d hd => by rcases List.mem_append.1 (show d ∈ s.cs ++ [c] from hd) with h | h; exact HC.out.ok d h; simp at h; rw [h]; exact HOK.out)
      have HS2O : Hid (⟨s.ch, s.rd + 1, s.m0, s.m1, s.t0, s.t1, s.cs ++ [c]⟩ : St).Ok := Lib.hid ⟨HON.out.rd, HON.out.m0, HON.out.m1, HON.out.t0, HON.out.t1⟩
      clear hm1
      have k0 := NF.out.cell 0
      have k1 := NF.out.cell 1
      have k2 := NF.out.cell 2
      have k3 := NF.out.cell 3
      have k4 := NF.out.cell 4
      have k5 := NF.out.cell 5
      have k6 := NF.out.cell 6
      simp only [List.getElem?_cons_zero, List.getElem?_cons_succ] at k0 k1 k2 k3 k4 k5 k6
      have q0 := PF.out.cell 0
      have q1 := PF.out.cell 1
      simp only [List.getElem?_cons_zero, List.getElem?_cons_succ] at q0 q1
      go_wp2_with fail
      clear k0 k1 k2 k3 k4 k5 k6 q0 q1
      refine (show Calls Try.prog 16 #[.agg #[.int .u32 s.ch, .int .u64 (s.rd + 1), .int .u64 s.m0, .int .u64 s.m1, .int .u64 s.t0, .int .u64 s.t1, .slice a2 m1 c2], .agg #[.int .u64 p0, .int .u64 p1]] F (fun e w2 => e = .returned (.int .i64 (soundE ((⟨s.ch, s.rd + 1, s.m0, s.m1, s.t0, s.t1, s.cs ++ [c]⟩ : St)) p0 p1)) ∧ Below F.heap.size F w2) from rsound_any ((⟨s.ch, s.rd + 1, s.m0, s.m1, s.t0, s.t1, s.cs ++ [c]⟩ : St)).ch ((⟨s.ch, s.rd + 1, s.m0, s.m1, s.t0, s.t1, s.cs ++ [c]⟩ : St)).rd ((⟨s.ch, s.rd + 1, s.m0, s.m1, s.t0, s.t1, s.cs ++ [c]⟩ : St)).m0 ((⟨s.ch, s.rd + 1, s.m0, s.m1, s.t0, s.t1, s.cs ++ [c]⟩ : St)).m1 ((⟨s.ch, s.rd + 1, s.m0, s.m1, s.t0, s.t1, s.cs ++ [c]⟩ : St)).t0 ((⟨s.ch, s.rd + 1, s.m0, s.m1, s.t0, s.t1, s.cs ++ [c]⟩ : St)).t1 a2 m1 c2 ((⟨s.ch, s.rd + 1, s.m0, s.m1, s.t0, s.t1, s.cs ++ [c]⟩ : St)).cs p0 p1 F (CRow.of_own (by rw [HS2L.out]; exact OF.out) HS2C.out) HS2L.out hml1 hp0 hp1 HS2O.out.eta).mono ?_
      rintro e Q ⟨rfl, hB⟩
      have BQ := Lib.hid (BF.out.trans (hB.mono BF.out.size))
      have RQ := Lib.hid (RF.out.below hB RF.out.lt)
      have NQ := Lib.hid (NF.out.below hB NF.out.lt)
      have OQ := Lib.hid (own_keep OF.out hB)
      clear hB BF RF NF OF PF SF KF
      obtain ⟨E3, hE3⟩ : ∃ E3, soundE ((⟨s.ch, s.rd + 1, s.m0, s.m1, s.t0, s.t1, s.cs ++ [c]⟩ : St)) p0 p1 = E3 := ⟨_, rfl⟩
      rw [hE3]
      have HE3 := Lib.hid hE3
      clear hE3
      by_cases h5 : E3 = 0
      case neg =>
        have b5 : (E3 != 0) = true := by simpa using h5
        have HNZ : Hid (¬ E3 = 0) := Lib.hid h5
        have HT : Hid (nextE s p0 p1 side 2 amt c id = E3) := Lib.hid (by rw [nextE_5 HE1.out H2.out H3.out HD0.out, HS2.out, HE3.out])
        clear h5
        have r0 := RQ.out.cell 0
        have r1 := RQ.out.cell 1
        have r2 := RQ.out.cell 2
        have r3 := RQ.out.cell 3
        have r4 := RQ.out.cell 4
        have r5 := RQ.out.cell 5
        have r6 := RQ.out.cell 6
        simp only [List.getElem?_cons_zero, List.getElem?_cons_succ] at r0 r1 r2 r3 r4 r5 r6
        have f0 := RQ.out.frozen 0
        have f1 := RQ.out.frozen 1
        have f2 := RQ.out.frozen 2
        have f3 := RQ.out.frozen 3
        have f4 := RQ.out.frozen 4
        have f5 := RQ.out.frozen 5
        have f6 := RQ.out.frozen 6
        have z27 := zero27
        go_wp2
        have hRR : Blk ((((((((Q.setCell ⟨gR, 0, none⟩ (.int .u32 0)).setCell ⟨gR, 1, none⟩ (.int .u64 0)).setCell ⟨gR, 2, none⟩ (.int .u64 0)).setCell ⟨gR, 3, none⟩ (.int .u64 0)).setCell ⟨gR, 4, none⟩ (.int .u64 0)).setCell ⟨gR, 5, none⟩ (.int .u64 0)).setCell ⟨gR, 6, none⟩ (.slice none 0 0))) gR 27 [.int .u32 0, .int .u64 0, .int .u64 0, .int .u64 0, .int .u64 0, .int .u64 0, .slice none 0 0] := (((((((RQ.out.set_ 0 _).set_ 1 _).set_ 2 _).set_ 3 _).set_ 4 _).set_ 5 _).set_ 6 _)
        exact bodyPost_ret (results_ct Try.results26 _ _ gR 27 [.int .u32 0, .int .u64 0, .int .u64 0, .int .u64 0, .int .u64 0, .int .u64 0, .slice none 0 0] _ rfl hRR Try.underlying27 rfl info27) rfl (by rw [show nextS s p0 p1 side 2 amt c id = st0 from if_neg (by rw [HT.out]; exact HNZ.out), HT.out]; exact ⟨none, 0, 0, rfl, World.ownsRow_nil _ _ _ _, rfl, (((((((BQ.out.setCell (p := ⟨gR, 0, none⟩) HGR.out _).setCell (p := ⟨gR, 1, none⟩) HGR.out _).setCell (p := ⟨gR, 2, none⟩) HGR.out _).setCell (p := ⟨gR, 3, none⟩) HGR.out _).setCell (p := ⟨gR, 4, none⟩) HGR.out _).setCell (p := ⟨gR, 5, none⟩) HGR.out _).setCell (p := ⟨gR, 6, none⟩) HGR.out _)⟩)
      subst h5
      have HT : Hid (nextE s p0 p1 side 2 amt c id = 0) := Lib.hid (by rw [nextE_5 HE1.out H2.out H3.out HD0.out, HS2.out, HE3.out])
      have k0 := NQ.out.cell 0
      have k1 := NQ.out.cell 1
      have k2 := NQ.out.cell 2
      have k3 := NQ.out.cell 3
      have k4 := NQ.out.cell 4
      have k5 := NQ.out.cell 5
      have k6 := NQ.out.cell 6
      simp only [List.getElem?_cons_zero, List.getElem?_cons_succ] at k0 k1 k2 k3 k4 k5 k6
      have r0 := RQ.out.cell 0
      have r1 := RQ.out.cell 1
      have r2 := RQ.out.cell 2
      have r3 := RQ.out.cell 3
      have r4 := RQ.out.cell 4
      have r5 := RQ.out.cell 5
      have r6 := RQ.out.cell 6
      simp only [List.getElem?_cons_zero, List.getElem?_cons_succ] at r0 r1 r2 r3 r4 r5 r6
      have f0 := RQ.out.frozen 0
      have f1 := RQ.out.frozen 1
      have f2 := RQ.out.frozen 2
      have f3 := RQ.out.frozen 3
      have f4 := RQ.out.frozen 4
      have f5 := RQ.out.frozen 5
      have f6 := RQ.out.frozen 6
      go_wp2
      have hRR : Blk ((((((((Q.setCell ⟨gR, 0, none⟩ (.int .u32 s.ch)).setCell ⟨gR, 1, none⟩ (.int .u64 (s.rd + 1))).setCell ⟨gR, 2, none⟩ (.int .u64 s.m0)).setCell ⟨gR, 3, none⟩ (.int .u64 s.m1)).setCell ⟨gR, 4, none⟩ (.int .u64 s.t0)).setCell ⟨gR, 5, none⟩ (.int .u64 s.t1)).setCell ⟨gR, 6, none⟩ (.slice a2 m1 c2))) gR 27 [.int .u32 s.ch, .int .u64 (s.rd + 1), .int .u64 s.m0, .int .u64 s.m1, .int .u64 s.t0, .int .u64 s.t1, .slice a2 m1 c2] := (((((((RQ.out.set_ 0 _).set_ 1 _).set_ 2 _).set_ 3 _).set_ 4 _).set_ 5 _).set_ 6 _)
      have hown := OQ.out.kept ((only_setCell (p := ⟨gR, 6, none⟩) (only_setCell (p := ⟨gR, 5, none⟩) (only_setCell (p := ⟨gR, 4, none⟩) (only_setCell (p := ⟨gR, 3, none⟩) (only_setCell (p := ⟨gR, 2, none⟩) (only_setCell (p := ⟨gR, 1, none⟩) (only_setCell (p := ⟨gR, 0, none⟩) (only_refl Q (some gR)) (.inl rfl) (.int .u32 s.ch)) (.inl rfl) (.int .u64 (s.rd + 1))) (.inl rfl) (.int .u64 s.m0)) (.inl rfl) (.int .u64 s.m1)) (.inl rfl) (.int .u64 s.t0)) (.inl rfl) (.int .u64 s.t1)) (.inl rfl) (.slice a2 m1 c2))) (.inr (fun e => own_ne OQ.out RQ.out (by decide) e.symm))
      exact bodyPost_ret (results_ct Try.results26 _ _ gR 27 [.int .u32 s.ch, .int .u64 (s.rd + 1), .int .u64 s.m0, .int .u64 s.m1, .int .u64 s.t0, .int .u64 s.t1, .slice a2 m1 c2] _ rfl hRR Try.underlying27 rfl info27) rfl (by rw [show nextS s p0 p1 side 2 amt c id = (⟨s.ch, s.rd + 1, s.m0, s.m1, s.t0, s.t1, s.cs ++ [c]⟩ : St) from (if_pos HT.out).trans HS2.out, HT.out]; exact ⟨a2, m1, c2, rfl, hown, HS2L.out, (((((((BQ.out.setCell (p := ⟨gR, 0, none⟩) HGR.out _).setCell (p := ⟨gR, 1, none⟩) HGR.out _).setCell (p := ⟨gR, 2, none⟩) HGR.out _).setCell (p := ⟨gR, 3, none⟩) HGR.out _).setCell (p := ⟨gR, 4, none⟩) HGR.out _).setCell (p := ⟨gR, 5, none⟩) HGR.out _).setCell (p := ⟨gR, 6, none⟩) HGR.out _)⟩)

end Go.Proofs.Ytkiifjkcpangfaa
