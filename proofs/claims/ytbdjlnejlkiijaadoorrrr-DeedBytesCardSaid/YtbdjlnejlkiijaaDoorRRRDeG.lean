/-
  Payments' rows compared; states compared: the program's and the document's.
-/
import Derived.Test.YtbdjlnejlkiijaaDoorRRRDeF
import Derived.Deep.RegionHeld
import Derived.Deep.DeepHandedRow
namespace Go.Proofs.YtbdjlnejlkiijaaDoorRRR
open Go.RowKit
set_option linter.unusedVariables false

/-- A state. -/
structure PSt where
  ch : Int
  rd : Int
  m0 : Int
  m1 : Int
  t0 : Int
  t1 : Int
  cs : List Cnd
deriving DecidableEq

theorem same_step {cs ds : List Cnd} {k : Nat} {c d : Cnd} (h : cs = ds ↔ cs.drop k = ds.drop k) (hk : k < cs.length) (hk2 : k < ds.length) (hc : cs.getD k cnd0 = c) (hd : ds.getD k cnd0 = d) :
    (c = d → (cs = ds ↔ cs.drop (k + 1) = ds.drop (k + 1))) ∧ (c ≠ d → cs ≠ ds) := by
  rw [drop_cnd cs k hk, hc, drop_cnd ds k hk2, hd, List.cons.injEq] at h
  exact ⟨fun e => by rw [h]; simp [e], fun e => by rw [Ne, h]; simp [e]⟩
theorem same_end {cs ds : List Cnd} {k : Nat} (h : cs = ds ↔ cs.drop k = ds.drop k) (hk : cs.length ≤ k) (hk2 : ds.length ≤ k) : cs = ds := by
  rw [h, List.drop_eq_nil_of_le hk, List.drop_eq_nil_of_le hk2]
theorem run_bin_op {o : Oper} {a : Act} {b : BinOp} {t u : TypeId} {x y : Operand} (ho : o.op = .binOp b t x y u) (hm : Tryd.prog.eqGuardType Tryd.prog.depth t = false) (vx vy : Array Value) (hx : a.eval x = .agg vx) (hy : a.eval y = .agg vy) (v : Value) {w : World} (hb : (binOp b t (.agg vx) (.agg vy)).run Tryd.prog w = .ok v w) :
    (execOp a.eval o).run Tryd.prog w = .ok (.value v) w := by
  unfold execOp
  simp only [ho, hx, hy, Sem.run_bind, run_eqGuard_agg w b t x y vx vy hm, hb, Result.andThen_ok, Sem.run_pure]
theorem guard60 : Tryd.prog.eqGuardType Tryd.prog.depth 47 = false := by kernel_rfl
theorem guard53 : Tryd.prog.eqGuardType Tryd.prog.depth 30 = false := by kernel_rfl
theorem guard24 : Tryd.prog.eqGuardType Tryd.prog.depth 24 = false := by kernel_rfl

set_option maxRecDepth 100000 in
set_option maxHeartbeats 4000000 in
theorem equal_any (a a2 : Option Addr) (n n2 cap cap2 : Nat) (cs ds : List Cnd) (w : World) (hC : CRow w a cs) (hl : cs.length = n) (hn : n ≤ 1000) (hD : CRow w a2 ds) (hl2 : ds.length = n2) (hn2 : n2 ≤ 1000) :
    Calls Tryd.prog 60 #[.slice a n cap, .slice a2 n2 cap2] w fun e w' => e = .returned (.bool (decide (cs = ds))) ∧ Below w.heap.size w w' := by
  have HC := Lib.hid hC
  have HL := Lib.hid hl
  have HD := Lib.hid hD
  have HL2 := Lib.hid hl2
  have HW : Hid (Below w.heap.size w w) := Lib.hid (Below.refl _ _)
  clear hC hl hD hl2
  by_cases hnn : n = n2
  · subst hnn
    go_enter Tryd.func60, Tryd.ntmps60
    go_wp2
    go_loopw [5, 13] (fun _ i wr => ∃ (k : Nat), k ≤ n ∧ i = .int .i64 k ∧ Hid (cs = ds ↔ cs.drop k = ds.drop k) ∧ Hid (Below w.heap.size w wr)) (fun _ i _ => n - (intOf i).toNat)
    case atStart => exact ⟨0, Nat.zero_le _, rfl, Lib.hid (by simp), HW⟩
    case round =>
      clear HW
      obtain ⟨k, hk, rfl, HS, HB⟩ := hrel
      by_cases hlt : k < n
      · have hk' : k < cs.length := by rw [HL.out]; exact hlt
        have hk2' : k < ds.length := by rw [HL2.out]; exact hlt
        obtain ⟨b, o, c, rfl, hb, hc, hr, hok⟩ := HC.out.get hk'
        obtain ⟨b2, o2, d, rfl, hb2, hd, hr2, hok2⟩ := HD.out.get hk2'
        have HX := Lib.hid (same_step HS.out hk' hk2' hc hd)
        have R1 : Hid (wr.rangeAt b (o + k * 36) c.cells) := Lib.hid (range_below hr HB.out hb)
        have R2 : Hid (wr.rangeAt b2 (o2 + k * 36) d.cells) := Lib.hid (range_below hr2 HB.out hb2)
        have L1 : Hid (b < wr.heap.size) := Lib.hid (Nat.lt_of_lt_of_le hb HB.out.size)
        have L2 : Hid (b2 < wr.heap.size) := Lib.hid (Nat.lt_of_lt_of_le hb2 HB.out.size)
        have W := HB
        have hz1 : (Tryd.prog.info? 47).map (·.size) = some c.cells.length := by rw [hok.len]; exact info60
        have hz2 : (Tryd.prog.info? 47).map (·.size) = some d.cells.length := by rw [hok2.len]; exact info60
        have hm := guard60
        have hq := fun W => neq60 c d hok hok2 W
        clear hc hr hb hd hr2 hb2 hok hok2 hk' hk2' HS HB
        by_cases h : c = d
        · have b0 : decide (c = d) = true := decide_eq_true h
          rw [b0] at hq
          have HT := Lib.hid (HX.out.1 h)
          clear h b0 HX
          go_upto_region 6 with fail
          have hBz : Below wr.heap.size wr wr.drew := below_drewN (Below.refl _ _) 1
          have R1X0 : Hid (wr.drew.rangeAt b (o + k * 36) c.cells) := Lib.hid (range_below R1.out hBz L1.out)
          have R2X0 : Hid (wr.drew.rangeAt b2 (o2 + k * 36) d.cells) := Lib.hid (range_below R2.out hBz L2.out)
          have WX0 : Hid (Below w.heap.size w wr.drew) := Lib.hid (W.out.trans (hBz.mono W.out.size))
          clear hBz
          refine wp_region_held_drew (S := fun w' => w'.rangeAt b (o + k * 36) c.cells ∧ w'.rangeAt b2 (o2 + k * 36) d.cells) (by kernel_rfl) (⟨R1X0.out, R2X0.out⟩) (fun hHeld => ?_)
          generalize wr.drew = X0 at hHeld R1X0 R2X0 WX0 ⊢
          refine wpAnyH_take (i := 0) (v := .slice (some ⟨b, o, none⟩) n cap) rfl (by kernel_rfl) (by kernel_rfl) (by kernel_rfl) (fun _ _ _ h => h) (Or.inl ⟨by rfl, fun w _ => by rfl⟩) hHeld ?_
          show wpAnyH _ _ _ _ _ _ _ (Act.put _ (some 16) _) _
          simp only [Act.put, List.setIfInBounds_toArray, List.set_cons_zero, List.set_cons_succ]
          refine wpAnyH_take (i := 1) (v := .int .i64 (k : Int)) rfl (by kernel_rfl) (by kernel_rfl) (by kernel_rfl) (fun _ _ _ h => h) (Or.inl ⟨by rfl, fun w _ => by rfl⟩) hHeld ?_
          show wpAnyH _ _ _ _ _ _ _ (Act.put _ (some 17) _) _
          simp only [Act.put, List.setIfInBounds_toArray, List.set_cons_zero, List.set_cons_succ]
          refine wpAnyH_take (i := 2) (v := .pointer (some ⟨b, o + k * 36, none⟩)) rfl (by kernel_rfl) (by kernel_rfl) (by kernel_rfl) (fun _ _ _ h => h) (Or.inl ⟨by rfl, by intro w' h; go_simp⟩) hHeld ?_
          show wpAnyH _ _ _ _ _ _ _ (Act.put _ (some 18) _) _
          simp only [Act.put, List.setIfInBounds_toArray, List.set_cons_zero, List.set_cons_succ]
          refine wpAnyH_take (i := 3) (v := .agg c.cells.toArray) rfl (by kernel_rfl) (by kernel_rfl) (by kernel_rfl) (fun _ _ _ h => h) (yieldsIf_load_mid (by rfl) 47 (.tmp 18) rfl b (o + k * 36) rfl c.cells _ (fun w h => h.1) Tryd.underlying47 rfl hz1) hHeld ?_
          show wpAnyH _ _ _ _ _ _ _ (Act.put _ (some 19) _) _
          simp only [Act.put, List.setIfInBounds_toArray, List.set_cons_zero, List.set_cons_succ]
          refine wpAnyH_take (i := 4) (v := .slice (some ⟨b2, o2, none⟩) n cap2) rfl (by kernel_rfl) (by kernel_rfl) (by kernel_rfl) (fun _ _ _ h => h) (Or.inl ⟨by rfl, fun w _ => by rfl⟩) hHeld ?_
          show wpAnyH _ _ _ _ _ _ _ (Act.put _ (some 20) _) _
          simp only [Act.put, List.setIfInBounds_toArray, List.set_cons_zero, List.set_cons_succ]
          refine wpAnyH_take (i := 5) (v := .int .i64 (k : Int)) rfl (by kernel_rfl) (by kernel_rfl) (by kernel_rfl) (fun _ _ _ h => h) (Or.inl ⟨by rfl, fun w _ => by rfl⟩) hHeld ?_
          show wpAnyH _ _ _ _ _ _ _ (Act.put _ (some 21) _) _
          simp only [Act.put, List.setIfInBounds_toArray, List.set_cons_zero, List.set_cons_succ]
          refine wpAnyH_take (i := 6) (v := .pointer (some ⟨b2, o2 + k * 36, none⟩)) rfl (by kernel_rfl) (by kernel_rfl) (by kernel_rfl) (fun _ _ _ h => h) (Or.inl ⟨by rfl, by intro w' h; go_simp⟩) hHeld ?_
          show wpAnyH _ _ _ _ _ _ _ (Act.put _ (some 22) _) _
          simp only [Act.put, List.setIfInBounds_toArray, List.set_cons_zero, List.set_cons_succ]
          refine wpAnyH_take (i := 7) (v := .agg d.cells.toArray) rfl (by kernel_rfl) (by kernel_rfl) (by kernel_rfl) (fun _ _ _ h => h) (yieldsIf_load_mid (by rfl) 47 (.tmp 22) rfl b2 (o2 + k * 36) rfl d.cells _ (fun w h => h.2) Tryd.underlying47 rfl hz2) hHeld ?_
          show wpAnyH _ _ _ _ _ _ _ (Act.put _ (some 23) _) _
          simp only [Act.put, List.setIfInBounds_toArray, List.set_cons_zero, List.set_cons_succ]
          refine wpAnyH_take (i := 8) (v := .bool false) rfl (by kernel_rfl) (by kernel_rfl) (by kernel_rfl) (fun _ _ _ h => h) (Or.inl ⟨by rfl, fun w h => run_bin_op rfl hm _ _ rfl rfl _ (hq w)⟩) hHeld ?_
          show wpAnyH _ _ _ _ _ _ _ (Act.put _ (some 24) _) _
          simp only [Act.put, List.setIfInBounds_toArray, List.set_cons_zero, List.set_cons_succ]
          refine wpAnyH_done (by kernel_rfl) ?_ _
          skip
          go_wp2
          go_roundw
          case rel => exact ⟨k + 1, by omega, by go_num, HT, WX0⟩
          case measure => simp [intOf] <;> omega
        · have b0 : decide (c = d) = false := decide_eq_false h
          rw [b0] at hq
          have HT := Lib.hid (HX.out.2 h)
          clear h b0 HX
          go_upto_region 6 with fail
          have hBz : Below wr.heap.size wr wr.drew := below_drewN (Below.refl _ _) 1
          have R1X0 : Hid (wr.drew.rangeAt b (o + k * 36) c.cells) := Lib.hid (range_below R1.out hBz L1.out)
          have R2X0 : Hid (wr.drew.rangeAt b2 (o2 + k * 36) d.cells) := Lib.hid (range_below R2.out hBz L2.out)
          have WX0 : Hid (Below w.heap.size w wr.drew) := Lib.hid (W.out.trans (hBz.mono W.out.size))
          clear hBz
          refine wp_region_held_drew (S := fun w' => w'.rangeAt b (o + k * 36) c.cells ∧ w'.rangeAt b2 (o2 + k * 36) d.cells) (by kernel_rfl) (⟨R1X0.out, R2X0.out⟩) (fun hHeld => ?_)
          generalize wr.drew = X0 at hHeld R1X0 R2X0 WX0 ⊢
          refine wpAnyH_take (i := 0) (v := .slice (some ⟨b, o, none⟩) n cap) rfl (by kernel_rfl) (by kernel_rfl) (by kernel_rfl) (fun _ _ _ h => h) (Or.inl ⟨by rfl, fun w _ => by rfl⟩) hHeld ?_
          show wpAnyH _ _ _ _ _ _ _ (Act.put _ (some 16) _) _
          simp only [Act.put, List.setIfInBounds_toArray, List.set_cons_zero, List.set_cons_succ]
          refine wpAnyH_take (i := 1) (v := .int .i64 (k : Int)) rfl (by kernel_rfl) (by kernel_rfl) (by kernel_rfl) (fun _ _ _ h => h) (Or.inl ⟨by rfl, fun w _ => by rfl⟩) hHeld ?_
          show wpAnyH _ _ _ _ _ _ _ (Act.put _ (some 17) _) _
          simp only [Act.put, List.setIfInBounds_toArray, List.set_cons_zero, List.set_cons_succ]
          refine wpAnyH_take (i := 2) (v := .pointer (some ⟨b, o + k * 36, none⟩)) rfl (by kernel_rfl) (by kernel_rfl) (by kernel_rfl) (fun _ _ _ h => h) (Or.inl ⟨by rfl, by intro w' h; go_simp⟩) hHeld ?_
          show wpAnyH _ _ _ _ _ _ _ (Act.put _ (some 18) _) _
          simp only [Act.put, List.setIfInBounds_toArray, List.set_cons_zero, List.set_cons_succ]
          refine wpAnyH_take (i := 3) (v := .agg c.cells.toArray) rfl (by kernel_rfl) (by kernel_rfl) (by kernel_rfl) (fun _ _ _ h => h) (yieldsIf_load_mid (by rfl) 47 (.tmp 18) rfl b (o + k * 36) rfl c.cells _ (fun w h => h.1) Tryd.underlying47 rfl hz1) hHeld ?_
          show wpAnyH _ _ _ _ _ _ _ (Act.put _ (some 19) _) _
          simp only [Act.put, List.setIfInBounds_toArray, List.set_cons_zero, List.set_cons_succ]
          refine wpAnyH_take (i := 4) (v := .slice (some ⟨b2, o2, none⟩) n cap2) rfl (by kernel_rfl) (by kernel_rfl) (by kernel_rfl) (fun _ _ _ h => h) (Or.inl ⟨by rfl, fun w _ => by rfl⟩) hHeld ?_
          show wpAnyH _ _ _ _ _ _ _ (Act.put _ (some 20) _) _
          simp only [Act.put, List.setIfInBounds_toArray, List.set_cons_zero, List.set_cons_succ]
          refine wpAnyH_take (i := 5) (v := .int .i64 (k : Int)) rfl (by kernel_rfl) (by kernel_rfl) (by kernel_rfl) (fun _ _ _ h => h) (Or.inl ⟨by rfl, fun w _ => by rfl⟩) hHeld ?_
          show wpAnyH _ _ _ _ _ _ _ (Act.put _ (some 21) _) _
          simp only [Act.put, List.setIfInBounds_toArray, List.set_cons_zero, List.set_cons_succ]
          refine wpAnyH_take (i := 6) (v := .pointer (some ⟨b2, o2 + k * 36, none⟩)) rfl (by kernel_rfl) (by kernel_rfl) (by kernel_rfl) (fun _ _ _ h => h) (Or.inl ⟨by rfl, by intro w' h; go_simp⟩) hHeld ?_
          show wpAnyH _ _ _ _ _ _ _ (Act.put _ (some 22) _) _
          simp only [Act.put, List.setIfInBounds_toArray, List.set_cons_zero, List.set_cons_succ]
          refine wpAnyH_take (i := 7) (v := .agg d.cells.toArray) rfl (by kernel_rfl) (by kernel_rfl) (by kernel_rfl) (fun _ _ _ h => h) (yieldsIf_load_mid (by rfl) 47 (.tmp 22) rfl b2 (o2 + k * 36) rfl d.cells _ (fun w h => h.2) Tryd.underlying47 rfl hz2) hHeld ?_
          show wpAnyH _ _ _ _ _ _ _ (Act.put _ (some 23) _) _
          simp only [Act.put, List.setIfInBounds_toArray, List.set_cons_zero, List.set_cons_succ]
          refine wpAnyH_take (i := 8) (v := .bool true) rfl (by kernel_rfl) (by kernel_rfl) (by kernel_rfl) (fun _ _ _ h => h) (Or.inl ⟨by rfl, fun w h => run_bin_op rfl hm _ _ rfl rfl _ (hq w)⟩) hHeld ?_
          show wpAnyH _ _ _ _ _ _ _ (Act.put _ (some 24) _) _
          simp only [Act.put, List.setIfInBounds_toArray, List.set_cons_zero, List.set_cons_succ]
          refine wpAnyH_done (by kernel_rfl) ?_ _
          skip
          go_wp2
          go_ret
          exact ⟨by rw [decide_eq_false HT.out]; rfl, WX0.out⟩
      · have HE := Lib.hid (same_end HS.out (by rw [HL.out]; omega) (by rw [HL2.out]; omega))
        go_wp2
        go_ret
        exact ⟨by rw [decide_eq_true HE.out]; rfl, HB.out⟩
  · have b0 : ((n : Int) != (n2 : Int)) = true := by simpa using (fun h => hnn (by omega) : ¬ (n : Int) = (n2 : Int))
    have HE : Hid (cs ≠ ds) := Lib.hid (fun e => hnn (by rw [← HL.out, ← HL2.out, e]))
    clear hnn
    go_enter Tryd.func60, Tryd.ntmps60
    go_wp2
    go_ret
    exact ⟨by rw [decide_eq_false HE.out]; rfl, HW.out⟩

theorem eq24 (x y u v : Int) (w : World) : (binOp .eql 24 (.agg #[.int .u64 x, .int .u64 y]) (.agg #[.int .u64 u, .int .u64 v])).run Tryd.prog w = .ok (.bool (decide (x = u ∧ y = v))) w := by
  rw [run_eql_struct]
  obtain ⟨i0, hi, hz0⟩ := Option.map_eq_some_iff.1 (show (Tryd.prog.info? 23).map (·.size) = some 1 by kernel_rfl)
  rw [run_equalIn_array (P := Tryd.prog) w 9999 _ _ Tryd.underlying24 hi, show Tryd.prog.cellsOf 23 = 1 by kernel_rfl]
  rw [show (#[Value.int .u64 x, .int .u64 y]) = ([x, y].map (Value.int .u64)).toArray from rfl, show (#[Value.int .u64 u, .int .u64 v]) = ([u, v].map (Value.int .u64)).toArray from rfl, eqItems_ints (P := Tryd.prog) Tryd.underlying23 9998 [x, y] [u, v] w (List.range 2) (fun i hi => by have := List.mem_range.1 hi; simp; omega), all_eq (x := [x, y]) (y := [u, v]) (n := 2) rfl rfl]
  simp
theorem neq24 (x y u v : Int) (w : World) : (binOp .neq 24 (.agg #[.int .u64 x, .int .u64 y]) (.agg #[.int .u64 u, .int .u64 v])).run Tryd.prog w = .ok (.bool (!decide (x = u ∧ y = v))) w := by
  rw [run_neq_struct]
  obtain ⟨i0, hi, hz0⟩ := Option.map_eq_some_iff.1 (show (Tryd.prog.info? 23).map (·.size) = some 1 by kernel_rfl)
  rw [run_equalIn_array (P := Tryd.prog) w 9999 _ _ Tryd.underlying24 hi, show Tryd.prog.cellsOf 23 = 1 by kernel_rfl]
  rw [show (#[Value.int .u64 x, .int .u64 y]) = ([x, y].map (Value.int .u64)).toArray from rfl, show (#[Value.int .u64 u, .int .u64 v]) = ([u, v].map (Value.int .u64)).toArray from rfl, eqItems_ints (P := Tryd.prog) Tryd.underlying23 9998 [x, y] [u, v] w (List.range 2) (fun i hi => by have := List.mem_range.1 hi; simp; omega), all_eq (x := [x, y]) (y := [u, v]) (n := 2) rfl rfl]
  simp
theorem PSt.ext_iff' {ch rd m0 m1 t0 t1 : Int} {cs : List Cnd} {ch2 rd2 m02 m12 t02 t12 : Int} {ds : List Cnd} : ((⟨ch, rd, m0, m1, t0, t1, cs⟩ : PSt) = (⟨ch2, rd2, m02, m12, t02, t12, ds⟩ : PSt)) ↔ (ch = ch2 ∧ rd = rd2 ∧ (m0 = m02 ∧ m1 = m12) ∧ (t0 = t02 ∧ t1 = t12) ∧ cs = ds) := by
  simp [and_assoc]

set_option maxRecDepth 100000 in
set_option maxHeartbeats 4000000 in
theorem same_any (ch rd m0 m1 t0 t1 : Int) (a : Option Addr) (n cap : Nat) (cs : List Cnd) (ch2 rd2 m02 m12 t02 t12 : Int) (a2 : Option Addr) (n2 cap2 : Nat) (ds : List Cnd) (w : World) (hC : CRow w a cs) (hl : cs.length = n) (hn : n ≤ 1000) (hD : CRow w a2 ds) (hl2 : ds.length = n2) (hn2 : n2 ≤ 1000) :
    Calls Tryd.prog 42 #[.agg #[.int .u32 ch, .int .u64 rd, .int .u64 m0, .int .u64 m1, .int .u64 t0, .int .u64 t1, .slice a n cap], .agg #[.int .u32 ch2, .int .u64 rd2, .int .u64 m02, .int .u64 m12, .int .u64 t02, .int .u64 t12, .slice a2 n2 cap2]] w fun e w' => e = .returned (.bool (decide ((⟨ch, rd, m0, m1, t0, t1, cs⟩ : PSt) = (⟨ch2, rd2, m02, m12, t02, t12, ds⟩ : PSt)))) ∧ Below w.heap.size w w' := by
  have HC := Lib.hid hC
  have HL := Lib.hid hl
  have HD := Lib.hid hD
  have HL2 := Lib.hid hl2
  have HB : Hid (Below w.heap.size w ((w.alloc (.cells #[.int .u32 ch, .int .u64 rd, .int .u64 m0, .int .u64 m1, .int .u64 t0, .int .u64 t1, .slice a n cap] 40)).alloc (.cells #[.int .u32 ch2, .int .u64 rd2, .int .u64 m02, .int .u64 m12, .int .u64 t02, .int .u64 t12, .slice a2 n2 cap2] 40))) := Lib.hid (((Below.refl _ _).alloc (Nat.le_refl _) _).alloc (by simp) _)
  have hg := guard24
  have q24 := fun x y u v W => eq24 x y u v W
  clear hC hl hD hl2

  by_cases hch : ch = ch2
  · have bch : (ch == ch2) = true := by simpa using hch
    have nch : (ch != ch2) = false := by simpa using hch
    have Hch := Lib.hid hch
    clear hch
    by_cases hrd : rd = rd2
    · have brd : (rd == rd2) = true := by simpa using hrd
      have nrd : (rd != rd2) = false := by simpa using hrd
      have Hrd := Lib.hid hrd
      clear hrd
      by_cases hm : m0 = m02 ∧ m1 = m12
      · have bm : decide (m0 = m02 ∧ m1 = m12) = true := decide_eq_true hm
        have Hm := Lib.hid hm
        clear hm
        by_cases ht : t0 = t02 ∧ t1 = t12
        · have bt : decide (t0 = t02 ∧ t1 = t12) = true := decide_eq_true ht
          have Ht := Lib.hid ht
          clear ht
          go_enter Tryd.func42, Tryd.ntmps42
          go_wp2_with fail
          refine (equal_any a a2 n n2 cap cap2 cs ds _ (HC.out.below HB.out) HL.out hn (HD.out.below HB.out) HL2.out hn2).mono ?_
          rintro e V ⟨rfl, hB⟩
          have HV := Lib.hid (HB.out.trans (hB.mono HB.out.size))
          have HE : Hid (decide ((⟨ch, rd, m0, m1, t0, t1, cs⟩ : PSt) = (⟨ch2, rd2, m02, m12, t02, t12, ds⟩ : PSt)) = decide (cs = ds)) := Lib.hid (by congr 1; rw [PSt.ext_iff']; simp [Hch.out, Hrd.out, Hm.out, Ht.out])
          clear hB
          go_wp2
          go_ret
          exact ⟨by rw [HE.out]; rfl, HV.out⟩
        · have bt : decide (t0 = t02 ∧ t1 = t12) = false := decide_eq_false ht
          have HE : Hid (decide ((⟨ch, rd, m0, m1, t0, t1, cs⟩ : PSt) = (⟨ch2, rd2, m02, m12, t02, t12, ds⟩ : PSt)) = false) := Lib.hid (decide_eq_false (by rw [PSt.ext_iff']; intro h; exact ht h.2.2.2.1))
          clear ht
          go_enter Tryd.func42, Tryd.ntmps42
          go_wp2
          go_ret
          exact ⟨by rw [HE.out]; rfl, HB.out⟩
      · have bm : decide (m0 = m02 ∧ m1 = m12) = false := decide_eq_false hm
        have HE : Hid (decide ((⟨ch, rd, m0, m1, t0, t1, cs⟩ : PSt) = (⟨ch2, rd2, m02, m12, t02, t12, ds⟩ : PSt)) = false) := Lib.hid (decide_eq_false (by rw [PSt.ext_iff']; intro h; exact hm h.2.2.1))
        clear hm
        go_enter Tryd.func42, Tryd.ntmps42
        go_wp2
        go_ret
        exact ⟨by rw [HE.out]; rfl, HB.out⟩
    · have brd : (rd == rd2) = false := by simpa using hrd
      have nrd : (rd != rd2) = true := by simpa using hrd
      have HE : Hid (decide ((⟨ch, rd, m0, m1, t0, t1, cs⟩ : PSt) = (⟨ch2, rd2, m02, m12, t02, t12, ds⟩ : PSt)) = false) := Lib.hid (decide_eq_false (by rw [PSt.ext_iff']; intro h; exact hrd h.2.1))
      clear hrd
      go_enter Tryd.func42, Tryd.ntmps42
      go_wp2
      go_ret
      exact ⟨by rw [HE.out]; rfl, HB.out⟩
  · have bch : (ch == ch2) = false := by simpa using hch
    have nch : (ch != ch2) = true := by simpa using hch
    have HE : Hid (decide ((⟨ch, rd, m0, m1, t0, t1, cs⟩ : PSt) = (⟨ch2, rd2, m02, m12, t02, t12, ds⟩ : PSt)) = false) := Lib.hid (decide_eq_false (by rw [PSt.ext_iff']; intro h; exact hch h.1))
    clear hch
    go_enter Tryd.func42, Tryd.ntmps42
    go_wp2
    go_ret
    exact ⟨by rw [HE.out]; rfl, HB.out⟩

end Go.Proofs.YtbdjlnejlkiijaaDoorRRR
