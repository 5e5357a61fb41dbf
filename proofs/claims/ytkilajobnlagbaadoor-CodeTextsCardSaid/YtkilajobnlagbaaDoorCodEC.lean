/-
  parseLine: a line whose number is none.
-/
import Derived.Test.YtkilajobnlagbaaDoorCodEB
namespace Go.Proofs.YtkilajobnlagbaaDoor
open Go.RowKit
set_option linter.unusedVariables false

/-- A variable that holds an error. -/
def ECell (i : Nat) (w : World) : Prop := ∃ ev, w.cell? ⟨i, 0, none⟩ = some ev ∧ (ev = .nilIface ∨ ∃ te pe, ev = .iface te pe)
theorem ECell.below {i : Nat} {w w' : World} (h : ECell i w) (hB : Below w.heap.size w w') : ECell i w' := by
  obtain ⟨ev, hm, h2⟩ := h
  exact ⟨ev, (hB.cell (p := ⟨i, 0, none⟩) (World.block_lt_of_cell? w _ hm)).trans hm, h2⟩
theorem bne_list {a b : ByteArray} (h : ¬ a = b) : (a.toList == b.toList) = false := by
  rw [beq_eq_false_iff_ne]
  intro e
  rw [ByteArray.toList_eq, ByteArray.toList_eq] at e
  apply h
  cases a with | mk x => cases b with | mk y =>
  exact congrArg ByteArray.mk (Array.toList_inj.1 e)
/-- What is told of a line that tells no order. -/
def BadPost (w : World) (c : Nat) (e : Ending) (w' : World) : Prop := e = .returned (.tuple #[.slice none 0 0, .int .i64 (c : Int)]) ∧ Below w.heap.size w w'

set_option maxRecDepth 100000 in
set_option maxHeartbeats 4000000 in
theorem parseLine_syntax1 (s : ByteArray) (op : Nat) (w : World) (hs : s.size < 4294967281) (HM : Hid (MCell w)) (HT : Hid (KTab w)) (h : (opF (lnName s) 18 0).2 = true) (ho : (opF (lnName s) 18 0).1 = (op : Int)) (hop : op < 18) (hF : fol op = 1) (hf : lnHas s = true) (hu : Lib.parseUintB 8 (lnNum s).data.toList = .«syntax») (hl : (lnNum s).size ≤ 281474976710656) (HE : Hid (ECell 3 w)) :
    Calls Tryd.prog 35 #[.string s] w (BadPost w 10) := by
  have HC := Lib.hid (cutS_any s w hs HM)
  have hk := fun (W : World) (h : KTab W) => h op hop
  obtain ⟨N, hN⟩ : ∃ x, lnName s = x := ⟨_, rfl⟩
  rw [hN] at HC h ho
  obtain ⟨D, hD⟩ : ∃ x, lnNum s = x := ⟨_, rfl⟩
  rw [hD, hf] at HC
  clear hN hf
  go_enter Tryd.func35, Tryd.ntmps35
  go_wp2_with fail
  refine HC.out.mono ?_
  rintro e w1 ⟨rfl, hB1⟩
  have HB1 := Lib.hid hB1
  have HT1 := Lib.hid (HT.out.below hB1 HT.out.lt)
  clear hB1 HC
  go_wp2_with fail
  refine (opOf_any N w1 HT1).mono ?_
  rintro e w2 ⟨rfl, hB2⟩
  have HB2 := Lib.hid (HB1.out.trans (hB2.mono HB1.out.size))
  have hT2 := HT1.out.below hB2 HT1.out.lt
  have c0 : w2.cell? ⟨0, op * 4, none⟩ = some (.string (nm op)) := hk w2 hT2 0 _ rfl
  have c1 : w2.cell? ⟨0, op * 4 + 1, none⟩ = some (.int .i64 (fol op : Int)) := hk w2 hT2 1 _ rfl
  have c2 : w2.cell? ⟨0, op * 4 + 2, none⟩ = some (.int .i64 (cst op : Int)) := hk w2 hT2 2 _ rfl
  have c3 : w2.cell? ⟨0, op * 4 + 3, none⟩ = some (.int .i64 (tks op : Int)) := hk w2 hT2 3 _ rfl
  clear hB2 HB1 hT2 hk
  rw [h, ho]
  obtain ⟨C, hC⟩ : ∃ x, cst op = x := ⟨_, rfl⟩
  obtain ⟨T, hT⟩ : ∃ x, tks op = x := ⟨_, rfl⟩
  obtain ⟨M, hM⟩ : ∃ x, nm op = x := ⟨_, rfl⟩
  rw [hM] at c0
  rw [hF] at c1
  rw [hC] at c2
  rw [hT] at c3
  clear hF hC hT hM h ho
  have o0 : (0 : Int) ≤ (op : Int) := Int.natCast_nonneg _
  have o1 : (op : Int) < 18 := by omega
  rw [hD] at hu hl
  have HU := Lib.hid hu
  have HL := Lib.hid hl
  clear hD hop hs hu hl
  rw [show ((1 : Nat) : Int) = 1 from rfl] at c1
  go_wp2_with fail
  have hO := outs w2 (.cells #[.string M, .int .i64 1, .int .i64 (C : Int), .int .i64 (T : Int)] 56) w.heap.size HB2.out.size (op : Int)
  have hY : Below w.heap.size w (((w2.alloc (.cells #[.string M, .int .i64 1, .int .i64 (C : Int), .int .i64 (T : Int)] 56)).alloc (.cells #[] 5)).alloc (.cells #[.int .u8 (op : Int)] 5)) := ((HB2.out.alloc HB2.out.size _).alloc (by rw [size_alloc]; have := HB2.out.size; omega) _).alloc (by rw [size_alloc, size_alloc]; have := HB2.out.size; omega) _
  have hK : Blk (((w2.alloc (.cells #[.string M, .int .i64 1, .int .i64 (C : Int), .int .i64 (T : Int)] 56)).alloc (.cells #[] 5)).alloc (.cells #[.int .u8 (op : Int)] 5)) w2.heap.size 56 [.string M, .int .i64 1, .int .i64 (C : Int), .int .i64 (T : Int)] := ((Blk.new w2 56 [.string M, .int .i64 1, .int .i64 (C : Int), .int .i64 (T : Int)]).alloc _).alloc _
  refine (Oct.one_any _ _ 1 w.heap.size [] [(op : Int)] _ hO.1 hO.2 (by simp) hY.size).mono ?_
  rintro e w3 ⟨vP, rfl, hP, hG, hL⟩
  have HP := Lib.hid hP
  have HB3 := Lib.hid (Oct.Laid.above (v' := .nilIface) (l := []) hY hO.1 hG)
  have HK := Lib.hid (hK.grown hG (fun e => Nat.ne_of_lt (Nat.lt_succ_self w2.heap.size) (Option.some.inj e)))
  have k1 : w3.cell? ⟨w2.heap.size, 1, none⟩ = some (.int .i64 1) := HK.out.cell 1
  clear hK
  clear hO hY hP hG hL c0 c1 c2 c3
  obtain ⟨ev, hv, hev⟩ := HE.out.below HB3.out
  have HPU := Lib.hid (Tryd.strconv_ParseUint_10_at8_syntax D HL.out HU.out ev w3 hv hev)
  clear hv hev
  go_wp2_with fail
  refine HPU.out.mono ?_
  rintro e w4 ⟨N2, rfl, hN, _, hB4⟩
  have HB4 := Lib.hid (HB3.out.trans (hB4.mono HB3.out.size))
  clear hN hB4 HB3 HK HP k1 HPU HE
  go_wp2_with fail
  go_ret2
  exact ⟨rfl, HB4.out⟩

set_option maxRecDepth 100000 in
set_option maxHeartbeats 4000000 in
theorem parseLine_range1 (s : ByteArray) (op : Nat) (w : World) (hs : s.size < 4294967281) (HM : Hid (MCell w)) (HT : Hid (KTab w)) (h : (opF (lnName s) 18 0).2 = true) (ho : (opF (lnName s) 18 0).1 = (op : Int)) (hop : op < 18) (hF : fol op = 1) (hf : lnHas s = true) (hu : Lib.parseUintB 8 (lnNum s).data.toList = .range) (hl : (lnNum s).size ≤ 281474976710656) (HE : Hid (ECell 4 w)) :
    Calls Tryd.prog 35 #[.string s] w (BadPost w 10) := by
  have HC := Lib.hid (cutS_any s w hs HM)
  have hk := fun (W : World) (h : KTab W) => h op hop
  obtain ⟨N, hN⟩ : ∃ x, lnName s = x := ⟨_, rfl⟩
  rw [hN] at HC h ho
  obtain ⟨D, hD⟩ : ∃ x, lnNum s = x := ⟨_, rfl⟩
  rw [hD, hf] at HC
  clear hN hf
  go_enter Tryd.func35, Tryd.ntmps35
  go_wp2_with fail
  refine HC.out.mono ?_
  rintro e w1 ⟨rfl, hB1⟩
  have HB1 := Lib.hid hB1
  have HT1 := Lib.hid (HT.out.below hB1 HT.out.lt)
  clear hB1 HC
  go_wp2_with fail
  refine (opOf_any N w1 HT1).mono ?_
  rintro e w2 ⟨rfl, hB2⟩
  have HB2 := Lib.hid (HB1.out.trans (hB2.mono HB1.out.size))
  have hT2 := HT1.out.below hB2 HT1.out.lt
  have c0 : w2.cell? ⟨0, op * 4, none⟩ = some (.string (nm op)) := hk w2 hT2 0 _ rfl
  have c1 : w2.cell? ⟨0, op * 4 + 1, none⟩ = some (.int .i64 (fol op : Int)) := hk w2 hT2 1 _ rfl
  have c2 : w2.cell? ⟨0, op * 4 + 2, none⟩ = some (.int .i64 (cst op : Int)) := hk w2 hT2 2 _ rfl
  have c3 : w2.cell? ⟨0, op * 4 + 3, none⟩ = some (.int .i64 (tks op : Int)) := hk w2 hT2 3 _ rfl
  clear hB2 HB1 hT2 hk
  rw [h, ho]
  obtain ⟨C, hC⟩ : ∃ x, cst op = x := ⟨_, rfl⟩
  obtain ⟨T, hT⟩ : ∃ x, tks op = x := ⟨_, rfl⟩
  obtain ⟨M, hM⟩ : ∃ x, nm op = x := ⟨_, rfl⟩
  rw [hM] at c0
  rw [hF] at c1
  rw [hC] at c2
  rw [hT] at c3
  clear hF hC hT hM h ho
  have o0 : (0 : Int) ≤ (op : Int) := Int.natCast_nonneg _
  have o1 : (op : Int) < 18 := by omega
  rw [hD] at hu hl
  have HU := Lib.hid hu
  have HL := Lib.hid hl
  clear hD hop hs hu hl
  rw [show ((1 : Nat) : Int) = 1 from rfl] at c1
  go_wp2_with fail
  have hO := outs w2 (.cells #[.string M, .int .i64 1, .int .i64 (C : Int), .int .i64 (T : Int)] 56) w.heap.size HB2.out.size (op : Int)
  have hY : Below w.heap.size w (((w2.alloc (.cells #[.string M, .int .i64 1, .int .i64 (C : Int), .int .i64 (T : Int)] 56)).alloc (.cells #[] 5)).alloc (.cells #[.int .u8 (op : Int)] 5)) := ((HB2.out.alloc HB2.out.size _).alloc (by rw [size_alloc]; have := HB2.out.size; omega) _).alloc (by rw [size_alloc, size_alloc]; have := HB2.out.size; omega) _
  have hK : Blk (((w2.alloc (.cells #[.string M, .int .i64 1, .int .i64 (C : Int), .int .i64 (T : Int)] 56)).alloc (.cells #[] 5)).alloc (.cells #[.int .u8 (op : Int)] 5)) w2.heap.size 56 [.string M, .int .i64 1, .int .i64 (C : Int), .int .i64 (T : Int)] := ((Blk.new w2 56 [.string M, .int .i64 1, .int .i64 (C : Int), .int .i64 (T : Int)]).alloc _).alloc _
  refine (Oct.one_any _ _ 1 w.heap.size [] [(op : Int)] _ hO.1 hO.2 (by simp) hY.size).mono ?_
  rintro e w3 ⟨vP, rfl, hP, hG, hL⟩
  have HP := Lib.hid hP
  have HB3 := Lib.hid (Oct.Laid.above (v' := .nilIface) (l := []) hY hO.1 hG)
  have HK := Lib.hid (hK.grown hG (fun e => Nat.ne_of_lt (Nat.lt_succ_self w2.heap.size) (Option.some.inj e)))
  have k1 : w3.cell? ⟨w2.heap.size, 1, none⟩ = some (.int .i64 1) := HK.out.cell 1
  clear hK
  clear hO hY hP hG hL c0 c1 c2 c3
  obtain ⟨ev, hv, hev⟩ := HE.out.below HB3.out
  have HPU := Lib.hid (Tryd.strconv_ParseUint_10_at8_range D HL.out HU.out ev w3 hv hev)
  clear hv hev
  go_wp2_with fail
  refine HPU.out.mono ?_
  rintro e w4 ⟨N2, rfl, hN, _, hB4⟩
  have HB4 := Lib.hid (HB3.out.trans (hB4.mono HB3.out.size))
  clear hN hB4 HB3 HK HP k1 HPU HE
  go_wp2_with fail
  go_ret2
  exact ⟨rfl, HB4.out⟩

set_option maxRecDepth 100000 in
set_option maxHeartbeats 4000000 in
theorem parseLine_unlike1 (s : ByteArray) (op : Nat) (w : World) (hs : s.size < 4294967281) (HM : Hid (MCell w)) (HT : Hid (KTab w)) (h : (opF (lnName s) 18 0).2 = true) (ho : (opF (lnName s) 18 0).1 = (op : Int)) (hop : op < 18) (hF : fol op = 1) (hf : lnHas s = true) (u : Nat) (hu : Lib.parseUintB 8 (lnNum s).data.toList = .ok u) (hu64 : u < 18446744073709551616) (hd : (⟨(Lib.decDigits u).toArray⟩ : ByteArray) ≠ lnNum s) (hl : (lnNum s).size ≤ 9223372036854775806) (HPT : Hid (PTab w)) :
    Calls Tryd.prog 35 #[.string s] w (BadPost w 10) := by
  have HC := Lib.hid (cutS_any s w hs HM)
  have hk := fun (W : World) (h : KTab W) => h op hop
  obtain ⟨N, hN⟩ : ∃ x, lnName s = x := ⟨_, rfl⟩
  rw [hN] at HC h ho
  obtain ⟨D, hD⟩ : ∃ x, lnNum s = x := ⟨_, rfl⟩
  rw [hD, hf] at HC
  clear hN hf
  go_enter Tryd.func35, Tryd.ntmps35
  go_wp2_with fail
  refine HC.out.mono ?_
  rintro e w1 ⟨rfl, hB1⟩
  have HB1 := Lib.hid hB1
  have HT1 := Lib.hid (HT.out.below hB1 HT.out.lt)
  clear hB1 HC
  go_wp2_with fail
  refine (opOf_any N w1 HT1).mono ?_
  rintro e w2 ⟨rfl, hB2⟩
  have HB2 := Lib.hid (HB1.out.trans (hB2.mono HB1.out.size))
  have hT2 := HT1.out.below hB2 HT1.out.lt
  have c0 : w2.cell? ⟨0, op * 4, none⟩ = some (.string (nm op)) := hk w2 hT2 0 _ rfl
  have c1 : w2.cell? ⟨0, op * 4 + 1, none⟩ = some (.int .i64 (fol op : Int)) := hk w2 hT2 1 _ rfl
  have c2 : w2.cell? ⟨0, op * 4 + 2, none⟩ = some (.int .i64 (cst op : Int)) := hk w2 hT2 2 _ rfl
  have c3 : w2.cell? ⟨0, op * 4 + 3, none⟩ = some (.int .i64 (tks op : Int)) := hk w2 hT2 3 _ rfl
  clear hB2 HB1 hT2 hk
  rw [h, ho]
  obtain ⟨C, hC⟩ : ∃ x, cst op = x := ⟨_, rfl⟩
  obtain ⟨T, hT⟩ : ∃ x, tks op = x := ⟨_, rfl⟩
  obtain ⟨M, hM⟩ : ∃ x, nm op = x := ⟨_, rfl⟩
  rw [hM] at c0
  rw [hF] at c1
  rw [hC] at c2
  rw [hT] at c3
  clear hF hC hT hM h ho
  have o0 : (0 : Int) ≤ (op : Int) := Int.natCast_nonneg _
  have o1 : (op : Int) < 18 := by omega
  rw [hD] at hu hd hl
  have HU := Lib.hid hu
  have HL := Lib.hid hl
  have HU64 := Lib.hid hu64
  have HD := Lib.hid hd
  clear hD hop hs hu hl hu64 hd
  rw [show ((1 : Nat) : Int) = 1 from rfl] at c1
  go_wp2_with fail
  have hO := outs w2 (.cells #[.string M, .int .i64 1, .int .i64 (C : Int), .int .i64 (T : Int)] 56) w.heap.size HB2.out.size (op : Int)
  have hY : Below w.heap.size w (((w2.alloc (.cells #[.string M, .int .i64 1, .int .i64 (C : Int), .int .i64 (T : Int)] 56)).alloc (.cells #[] 5)).alloc (.cells #[.int .u8 (op : Int)] 5)) := ((HB2.out.alloc HB2.out.size _).alloc (by rw [size_alloc]; have := HB2.out.size; omega) _).alloc (by rw [size_alloc, size_alloc]; have := HB2.out.size; omega) _
  have hK : Blk (((w2.alloc (.cells #[.string M, .int .i64 1, .int .i64 (C : Int), .int .i64 (T : Int)] 56)).alloc (.cells #[] 5)).alloc (.cells #[.int .u8 (op : Int)] 5)) w2.heap.size 56 [.string M, .int .i64 1, .int .i64 (C : Int), .int .i64 (T : Int)] := ((Blk.new w2 56 [.string M, .int .i64 1, .int .i64 (C : Int), .int .i64 (T : Int)]).alloc _).alloc _
  refine (Oct.one_any _ _ 1 w.heap.size [] [(op : Int)] _ hO.1 hO.2 (by simp) hY.size).mono ?_
  rintro e w3 ⟨vP, rfl, hP, hG, hL⟩
  have HP := Lib.hid hP
  have HB3 := Lib.hid (Oct.Laid.above (v' := .nilIface) (l := []) hY hO.1 hG)
  have HK := Lib.hid (hK.grown hG (fun e => Nat.ne_of_lt (Nat.lt_succ_self w2.heap.size) (Option.some.inj e)))
  have k1 : w3.cell? ⟨w2.heap.size, 1, none⟩ = some (.int .i64 1) := HK.out.cell 1
  clear hK
  clear hO hY hP hG hL c0 c1 c2 c3
  have HPT3 : Hid (PTab w3) := Lib.hid (PTab.below HPT.out HB3.out)
  go_wp2_with fail
  refine (Tryd.strconv_ParseUint_10_at8_ok D HL.out u HU.out w3).mono ?_
  rintro e w4 ⟨rfl, hw4⟩
  have hB4 : Below w3.heap.size w3 w4 := by
    rcases hw4 with rfl | rfl
    · exact Below.refl _ _
    · exact Lib.bytesWorld_below _ _ _
  have HB4 := Lib.hid (HB3.out.trans (hB4.mono HB3.out.size))
  have HPT4 : Hid (PTab w4) := Lib.hid (PTab.below HPT.out HB4.out)
  clear hw4 hB4 HB3 HK HP k1 HPT3
  go_wp2_with fail
  refine (fmt_any u HU64.out w4 HPT4).mono ?_
  rintro e w5 ⟨rfl, hB5⟩
  have HB5 := Lib.hid (HB4.out.trans (hB5.mono HB4.out.size))
  have hd := HD.out
  obtain ⟨DD, hDD⟩ : ∃ x, (⟨(Lib.decDigits u).toArray⟩ : ByteArray) = x := ⟨_, rfl⟩
  rw [hDD] at hd ⊢
  have d1 : (DD.toList == D.toList) = false := bne_list hd
  clear hDD hd HD hB5 HB4 HPT4
  go_wp2_with fail
  go_ret2
  exact ⟨rfl, HB5.out⟩

set_option maxRecDepth 100000 in
set_option maxHeartbeats 4000000 in
theorem parseLine_syntax2 (s : ByteArray) (op : Nat) (w : World) (hs : s.size < 4294967281) (HM : Hid (MCell w)) (HT : Hid (KTab w)) (h : (opF (lnName s) 18 0).2 = true) (ho : (opF (lnName s) 18 0).1 = (op : Int)) (hop : op < 18) (hF : fol op = 2) (hf : lnHas s = true) (hu : Lib.parseUintB 16 (lnNum s).data.toList = .«syntax») (hl : (lnNum s).size ≤ 281474976710656) (HE : Hid (ECell 3 w)) :
    Calls Tryd.prog 35 #[.string s] w (BadPost w 10) := by
  have HC := Lib.hid (cutS_any s w hs HM)
  have hk := fun (W : World) (h : KTab W) => h op hop
  obtain ⟨N, hN⟩ : ∃ x, lnName s = x := ⟨_, rfl⟩
  rw [hN] at HC h ho
  obtain ⟨D, hD⟩ : ∃ x, lnNum s = x := ⟨_, rfl⟩
  rw [hD, hf] at HC
  clear hN hf
  go_enter Tryd.func35, Tryd.ntmps35
  go_wp2_with fail
  refine HC.out.mono ?_
  rintro e w1 ⟨rfl, hB1⟩
  have HB1 := Lib.hid hB1
  have HT1 := Lib.hid (HT.out.below hB1 HT.out.lt)
  clear hB1 HC
  go_wp2_with fail
  refine (opOf_any N w1 HT1).mono ?_
  rintro e w2 ⟨rfl, hB2⟩
  have HB2 := Lib.hid (HB1.out.trans (hB2.mono HB1.out.size))
  have hT2 := HT1.out.below hB2 HT1.out.lt
  have c0 : w2.cell? ⟨0, op * 4, none⟩ = some (.string (nm op)) := hk w2 hT2 0 _ rfl
  have c1 : w2.cell? ⟨0, op * 4 + 1, none⟩ = some (.int .i64 (fol op : Int)) := hk w2 hT2 1 _ rfl
  have c2 : w2.cell? ⟨0, op * 4 + 2, none⟩ = some (.int .i64 (cst op : Int)) := hk w2 hT2 2 _ rfl
  have c3 : w2.cell? ⟨0, op * 4 + 3, none⟩ = some (.int .i64 (tks op : Int)) := hk w2 hT2 3 _ rfl
  clear hB2 HB1 hT2 hk
  rw [h, ho]
  obtain ⟨C, hC⟩ : ∃ x, cst op = x := ⟨_, rfl⟩
  obtain ⟨T, hT⟩ : ∃ x, tks op = x := ⟨_, rfl⟩
  obtain ⟨M, hM⟩ : ∃ x, nm op = x := ⟨_, rfl⟩
  rw [hM] at c0
  rw [hF] at c1
  rw [hC] at c2
  rw [hT] at c3
  clear hF hC hT hM h ho
  have o0 : (0 : Int) ≤ (op : Int) := Int.natCast_nonneg _
  have o1 : (op : Int) < 18 := by omega
  rw [hD] at hu hl
  have HU := Lib.hid hu
  have HL := Lib.hid hl
  clear hD hop hs hu hl
  rw [show ((2 : Nat) : Int) = 2 from rfl] at c1
  go_wp2_with fail
  have hO := outs w2 (.cells #[.string M, .int .i64 2, .int .i64 (C : Int), .int .i64 (T : Int)] 56) w.heap.size HB2.out.size (op : Int)
  have hY : Below w.heap.size w (((w2.alloc (.cells #[.string M, .int .i64 2, .int .i64 (C : Int), .int .i64 (T : Int)] 56)).alloc (.cells #[] 5)).alloc (.cells #[.int .u8 (op : Int)] 5)) := ((HB2.out.alloc HB2.out.size _).alloc (by rw [size_alloc]; have := HB2.out.size; omega) _).alloc (by rw [size_alloc, size_alloc]; have := HB2.out.size; omega) _
  have hK : Blk (((w2.alloc (.cells #[.string M, .int .i64 2, .int .i64 (C : Int), .int .i64 (T : Int)] 56)).alloc (.cells #[] 5)).alloc (.cells #[.int .u8 (op : Int)] 5)) w2.heap.size 56 [.string M, .int .i64 2, .int .i64 (C : Int), .int .i64 (T : Int)] := ((Blk.new w2 56 [.string M, .int .i64 2, .int .i64 (C : Int), .int .i64 (T : Int)]).alloc _).alloc _
  refine (Oct.one_any _ _ 1 w.heap.size [] [(op : Int)] _ hO.1 hO.2 (by simp) hY.size).mono ?_
  rintro e w3 ⟨vP, rfl, hP, hG, hL⟩
  have HP := Lib.hid hP
  have HB3 := Lib.hid (Oct.Laid.above (v' := .nilIface) (l := []) hY hO.1 hG)
  have HK := Lib.hid (hK.grown hG (fun e => Nat.ne_of_lt (Nat.lt_succ_self w2.heap.size) (Option.some.inj e)))
  have k1 : w3.cell? ⟨w2.heap.size, 1, none⟩ = some (.int .i64 2) := HK.out.cell 1
  clear hK
  clear hO hY hP hG hL c0 c1 c2 c3
  obtain ⟨ev, hv, hev⟩ := HE.out.below HB3.out
  have HPU := Lib.hid (Tryd.strconv_ParseUint_10_at16_syntax D HL.out HU.out ev w3 hv hev)
  clear hv hev
  go_wp2_with fail
  refine HPU.out.mono ?_
  rintro e w4 ⟨N2, rfl, hN, _, hB4⟩
  have HB4 := Lib.hid (HB3.out.trans (hB4.mono HB3.out.size))
  clear hN hB4 HB3 HK HP k1 HPU HE
  go_wp2_with fail
  go_ret2
  exact ⟨rfl, HB4.out⟩

set_option maxRecDepth 100000 in
set_option maxHeartbeats 4000000 in
theorem parseLine_range2 (s : ByteArray) (op : Nat) (w : World) (hs : s.size < 4294967281) (HM : Hid (MCell w)) (HT : Hid (KTab w)) (h : (opF (lnName s) 18 0).2 = true) (ho : (opF (lnName s) 18 0).1 = (op : Int)) (hop : op < 18) (hF : fol op = 2) (hf : lnHas s = true) (hu : Lib.parseUintB 16 (lnNum s).data.toList = .range) (hl : (lnNum s).size ≤ 281474976710656) (HE : Hid (ECell 4 w)) :
    Calls Tryd.prog 35 #[.string s] w (BadPost w 10) := by
  have HC := Lib.hid (cutS_any s w hs HM)
  have hk := fun (W : World) (h : KTab W) => h op hop
  obtain ⟨N, hN⟩ : ∃ x, lnName s = x := ⟨_, rfl⟩
  rw [hN] at HC h ho
  obtain ⟨D, hD⟩ : ∃ x, lnNum s = x := ⟨_, rfl⟩
  rw [hD, hf] at HC
  clear hN hf
  go_enter Tryd.func35, Tryd.ntmps35
  go_wp2_with fail
  refine HC.out.mono ?_
  rintro e w1 ⟨rfl, hB1⟩
  have HB1 := Lib.hid hB1
  have HT1 := Lib.hid (HT.out.below hB1 HT.out.lt)
  clear hB1 HC
  go_wp2_with fail
  refine (opOf_any N w1 HT1).mono ?_
  rintro e w2 ⟨rfl, hB2⟩
  have HB2 := Lib.hid (HB1.out.trans (hB2.mono HB1.out.size))
  have hT2 := HT1.out.below hB2 HT1.out.lt
  have c0 : w2.cell? ⟨0, op * 4, none⟩ = some (.string (nm op)) := hk w2 hT2 0 _ rfl
  have c1 : w2.cell? ⟨0, op * 4 + 1, none⟩ = some (.int .i64 (fol op : Int)) := hk w2 hT2 1 _ rfl
  have c2 : w2.cell? ⟨0, op * 4 + 2, none⟩ = some (.int .i64 (cst op : Int)) := hk w2 hT2 2 _ rfl
  have c3 : w2.cell? ⟨0, op * 4 + 3, none⟩ = some (.int .i64 (tks op : Int)) := hk w2 hT2 3 _ rfl
  clear hB2 HB1 hT2 hk
  rw [h, ho]
  obtain ⟨C, hC⟩ : ∃ x, cst op = x := ⟨_, rfl⟩
  obtain ⟨T, hT⟩ : ∃ x, tks op = x := ⟨_, rfl⟩
  obtain ⟨M, hM⟩ : ∃ x, nm op = x := ⟨_, rfl⟩
  rw [hM] at c0
  rw [hF] at c1
  rw [hC] at c2
  rw [hT] at c3
  clear hF hC hT hM h ho
  have o0 : (0 : Int) ≤ (op : Int) := Int.natCast_nonneg _
  have o1 : (op : Int) < 18 := by omega
  rw [hD] at hu hl
  have HU := Lib.hid hu
  have HL := Lib.hid hl
  clear hD hop hs hu hl
  rw [show ((2 : Nat) : Int) = 2 from rfl] at c1
  go_wp2_with fail
  have hO := outs w2 (.cells #[.string M, .int .i64 2, .int .i64 (C : Int), .int .i64 (T : Int)] 56) w.heap.size HB2.out.size (op : Int)
  have hY : Below w.heap.size w (((w2.alloc (.cells #[.string M, .int .i64 2, .int .i64 (C : Int), .int .i64 (T : Int)] 56)).alloc (.cells #[] 5)).alloc (.cells #[.int .u8 (op : Int)] 5)) := ((HB2.out.alloc HB2.out.size _).alloc (by rw [size_alloc]; have := HB2.out.size; omega) _).alloc (by rw [size_alloc, size_alloc]; have := HB2.out.size; omega) _
  have hK : Blk (((w2.alloc (.cells #[.string M, .int .i64 2, .int .i64 (C : Int), .int .i64 (T : Int)] 56)).alloc (.cells #[] 5)).alloc (.cells #[.int .u8 (op : Int)] 5)) w2.heap.size 56 [.string M, .int .i64 2, .int .i64 (C : Int), .int .i64 (T : Int)] := ((Blk.new w2 56 [.string M, .int .i64 2, .int .i64 (C : Int), .int .i64 (T : Int)]).alloc _).alloc _
  refine (Oct.one_any _ _ 1 w.heap.size [] [(op : Int)] _ hO.1 hO.2 (by simp) hY.size).mono ?_
  rintro e w3 ⟨vP, rfl, hP, hG, hL⟩
  have HP := Lib.hid hP
  have HB3 := Lib.hid (Oct.Laid.above (v' := .nilIface) (l := []) hY hO.1 hG)
  have HK := Lib.hid (hK.grown hG (fun e => Nat.ne_of_lt (Nat.lt_succ_self w2.heap.size) (Option.some.inj e)))
  have k1 : w3.cell? ⟨w2.heap.size, 1, none⟩ = some (.int .i64 2) := HK.out.cell 1
  clear hK
  clear hO hY hP hG hL c0 c1 c2 c3
  obtain ⟨ev, hv, hev⟩ := HE.out.below HB3.out
  have HPU := Lib.hid (Tryd.strconv_ParseUint_10_at16_range D HL.out HU.out ev w3 hv hev)
  clear hv hev
  go_wp2_with fail
  refine HPU.out.mono ?_
  rintro e w4 ⟨N2, rfl, hN, _, hB4⟩
  have HB4 := Lib.hid (HB3.out.trans (hB4.mono HB3.out.size))
  clear hN hB4 HB3 HK HP k1 HPU HE
  go_wp2_with fail
  go_ret2
  exact ⟨rfl, HB4.out⟩

set_option maxRecDepth 100000 in
set_option maxHeartbeats 4000000 in
theorem parseLine_unlike2 (s : ByteArray) (op : Nat) (w : World) (hs : s.size < 4294967281) (HM : Hid (MCell w)) (HT : Hid (KTab w)) (h : (opF (lnName s) 18 0).2 = true) (ho : (opF (lnName s) 18 0).1 = (op : Int)) (hop : op < 18) (hF : fol op = 2) (hf : lnHas s = true) (u : Nat) (hu : Lib.parseUintB 16 (lnNum s).data.toList = .ok u) (hu64 : u < 18446744073709551616) (hd : (⟨(Lib.decDigits u).toArray⟩ : ByteArray) ≠ lnNum s) (hl : (lnNum s).size ≤ 9223372036854775806) (HPT : Hid (PTab w)) :
    Calls Tryd.prog 35 #[.string s] w (BadPost w 10) := by
  have HC := Lib.hid (cutS_any s w hs HM)
  have hk := fun (W : World) (h : KTab W) => h op hop
  obtain ⟨N, hN⟩ : ∃ x, lnName s = x := ⟨_, rfl⟩
  rw [hN] at HC h ho
  obtain ⟨D, hD⟩ : ∃ x, lnNum s = x := ⟨_, rfl⟩
  rw [hD, hf] at HC
  clear hN hf
  go_enter Tryd.func35, Tryd.ntmps35
  go_wp2_with fail
  refine HC.out.mono ?_
  rintro e w1 ⟨rfl, hB1⟩
  have HB1 := Lib.hid hB1
  have HT1 := Lib.hid (HT.out.below hB1 HT.out.lt)
  clear hB1 HC
  go_wp2_with fail
  refine (opOf_any N w1 HT1).mono ?_
  rintro e w2 ⟨rfl, hB2⟩
  have HB2 := Lib.hid (HB1.out.trans (hB2.mono HB1.out.size))
  have hT2 := HT1.out.below hB2 HT1.out.lt
  have c0 : w2.cell? ⟨0, op * 4, none⟩ = some (.string (nm op)) := hk w2 hT2 0 _ rfl
  have c1 : w2.cell? ⟨0, op * 4 + 1, none⟩ = some (.int .i64 (fol op : Int)) := hk w2 hT2 1 _ rfl
  have c2 : w2.cell? ⟨0, op * 4 + 2, none⟩ = some (.int .i64 (cst op : Int)) := hk w2 hT2 2 _ rfl
  have c3 : w2.cell? ⟨0, op * 4 + 3, none⟩ = some (.int .i64 (tks op : Int)) := hk w2 hT2 3 _ rfl
  clear hB2 HB1 hT2 hk
  rw [h, ho]
  obtain ⟨C, hC⟩ : ∃ x, cst op = x := ⟨_, rfl⟩
  obtain ⟨T, hT⟩ : ∃ x, tks op = x := ⟨_, rfl⟩
  obtain ⟨M, hM⟩ : ∃ x, nm op = x := ⟨_, rfl⟩
  rw [hM] at c0
  rw [hF] at c1
  rw [hC] at c2
  rw [hT] at c3
  clear hF hC hT hM h ho
  have o0 : (0 : Int) ≤ (op : Int) := Int.natCast_nonneg _
  have o1 : (op : Int) < 18 := by omega
  rw [hD] at hu hd hl
  have HU := Lib.hid hu
  have HL := Lib.hid hl
  have HU64 := Lib.hid hu64
  have HD := Lib.hid hd
  clear hD hop hs hu hl hu64 hd
  rw [show ((2 : Nat) : Int) = 2 from rfl] at c1
  go_wp2_with fail
  have hO := outs w2 (.cells #[.string M, .int .i64 2, .int .i64 (C : Int), .int .i64 (T : Int)] 56) w.heap.size HB2.out.size (op : Int)
  have hY : Below w.heap.size w (((w2.alloc (.cells #[.string M, .int .i64 2, .int .i64 (C : Int), .int .i64 (T : Int)] 56)).alloc (.cells #[] 5)).alloc (.cells #[.int .u8 (op : Int)] 5)) := ((HB2.out.alloc HB2.out.size _).alloc (by rw [size_alloc]; have := HB2.out.size; omega) _).alloc (by rw [size_alloc, size_alloc]; have := HB2.out.size; omega) _
  have hK : Blk (((w2.alloc (.cells #[.string M, .int .i64 2, .int .i64 (C : Int), .int .i64 (T : Int)] 56)).alloc (.cells #[] 5)).alloc (.cells #[.int .u8 (op : Int)] 5)) w2.heap.size 56 [.string M, .int .i64 2, .int .i64 (C : Int), .int .i64 (T : Int)] := ((Blk.new w2 56 [.string M, .int .i64 2, .int .i64 (C : Int), .int .i64 (T : Int)]).alloc _).alloc _
  refine (Oct.one_any _ _ 1 w.heap.size [] [(op : Int)] _ hO.1 hO.2 (by simp) hY.size).mono ?_
  rintro e w3 ⟨vP, rfl, hP, hG, hL⟩
  have HP := Lib.hid hP
  have HB3 := Lib.hid (Oct.Laid.above (v' := .nilIface) (l := []) hY hO.1 hG)
  have HK := Lib.hid (hK.grown hG (fun e => Nat.ne_of_lt (Nat.lt_succ_self w2.heap.size) (Option.some.inj e)))
  have k1 : w3.cell? ⟨w2.heap.size, 1, none⟩ = some (.int .i64 2) := HK.out.cell 1
  clear hK
  clear hO hY hP hG hL c0 c1 c2 c3
  have HPT3 : Hid (PTab w3) := Lib.hid (PTab.below HPT.out HB3.out)
  go_wp2_with fail
  refine (Tryd.strconv_ParseUint_10_at16_ok D HL.out u HU.out w3).mono ?_
  rintro e w4 ⟨rfl, hw4⟩
  have hB4 : Below w3.heap.size w3 w4 := by
    rcases hw4 with rfl | rfl
    · exact Below.refl _ _
    · exact Lib.bytesWorld_below _ _ _
  have HB4 := Lib.hid (HB3.out.trans (hB4.mono HB3.out.size))
  have HPT4 : Hid (PTab w4) := Lib.hid (PTab.below HPT.out HB4.out)
  clear hw4 hB4 HB3 HK HP k1 HPT3
  go_wp2_with fail
  refine (fmt_any u HU64.out w4 HPT4).mono ?_
  rintro e w5 ⟨rfl, hB5⟩
  have HB5 := Lib.hid (HB4.out.trans (hB5.mono HB4.out.size))
  have hd := HD.out
  obtain ⟨DD, hDD⟩ : ∃ x, (⟨(Lib.decDigits u).toArray⟩ : ByteArray) = x := ⟨_, rfl⟩
  rw [hDD] at hd ⊢
  have d1 : (DD.toList == D.toList) = false := bne_list hd
  clear hDD hd HD hB5 HB4 HPT4
  go_wp2_with fail
  go_ret2
  exact ⟨rfl, HB5.out⟩

set_option maxRecDepth 100000 in
set_option maxHeartbeats 4000000 in
theorem parseLine_syntax8 (s : ByteArray) (op : Nat) (w : World) (hs : s.size < 4294967281) (HM : Hid (MCell w)) (HT : Hid (KTab w)) (h : (opF (lnName s) 18 0).2 = true) (ho : (opF (lnName s) 18 0).1 = (op : Int)) (hop : op < 18) (hF : fol op = 8) (hf : lnHas s = true) (hu : Lib.parseUintB 64 (lnNum s).data.toList = .«syntax») (hl : (lnNum s).size ≤ 281474976710656) (HE : Hid (ECell 3 w)) :
    Calls Tryd.prog 35 #[.string s] w (BadPost w 10) := by
  have HC := Lib.hid (cutS_any s w hs HM)
  have hk := fun (W : World) (h : KTab W) => h op hop
  obtain ⟨N, hN⟩ : ∃ x, lnName s = x := ⟨_, rfl⟩
  rw [hN] at HC h ho
  obtain ⟨D, hD⟩ : ∃ x, lnNum s = x := ⟨_, rfl⟩
  rw [hD, hf] at HC
  clear hN hf
  go_enter Tryd.func35, Tryd.ntmps35
  go_wp2_with fail
  refine HC.out.mono ?_
  rintro e w1 ⟨rfl, hB1⟩
  have HB1 := Lib.hid hB1
  have HT1 := Lib.hid (HT.out.below hB1 HT.out.lt)
  clear hB1 HC
  go_wp2_with fail
  refine (opOf_any N w1 HT1).mono ?_
  rintro e w2 ⟨rfl, hB2⟩
  have HB2 := Lib.hid (HB1.out.trans (hB2.mono HB1.out.size))
  have hT2 := HT1.out.below hB2 HT1.out.lt
  have c0 : w2.cell? ⟨0, op * 4, none⟩ = some (.string (nm op)) := hk w2 hT2 0 _ rfl
  have c1 : w2.cell? ⟨0, op * 4 + 1, none⟩ = some (.int .i64 (fol op : Int)) := hk w2 hT2 1 _ rfl
  have c2 : w2.cell? ⟨0, op * 4 + 2, none⟩ = some (.int .i64 (cst op : Int)) := hk w2 hT2 2 _ rfl
  have c3 : w2.cell? ⟨0, op * 4 + 3, none⟩ = some (.int .i64 (tks op : Int)) := hk w2 hT2 3 _ rfl
  clear hB2 HB1 hT2 hk
  rw [h, ho]
  obtain ⟨C, hC⟩ : ∃ x, cst op = x := ⟨_, rfl⟩
  obtain ⟨T, hT⟩ : ∃ x, tks op = x := ⟨_, rfl⟩
  obtain ⟨M, hM⟩ : ∃ x, nm op = x := ⟨_, rfl⟩
  rw [hM] at c0
  rw [hF] at c1
  rw [hC] at c2
  rw [hT] at c3
  clear hF hC hT hM h ho
  have o0 : (0 : Int) ≤ (op : Int) := Int.natCast_nonneg _
  have o1 : (op : Int) < 18 := by omega
  rw [hD] at hu hl
  have HU := Lib.hid hu
  have HL := Lib.hid hl
  clear hD hop hs hu hl
  rw [show ((8 : Nat) : Int) = 8 from rfl] at c1
  go_wp2_with fail
  have hO := outs w2 (.cells #[.string M, .int .i64 8, .int .i64 (C : Int), .int .i64 (T : Int)] 56) w.heap.size HB2.out.size (op : Int)
  have hY : Below w.heap.size w (((w2.alloc (.cells #[.string M, .int .i64 8, .int .i64 (C : Int), .int .i64 (T : Int)] 56)).alloc (.cells #[] 5)).alloc (.cells #[.int .u8 (op : Int)] 5)) := ((HB2.out.alloc HB2.out.size _).alloc (by rw [size_alloc]; have := HB2.out.size; omega) _).alloc (by rw [size_alloc, size_alloc]; have := HB2.out.size; omega) _
  have hK : Blk (((w2.alloc (.cells #[.string M, .int .i64 8, .int .i64 (C : Int), .int .i64 (T : Int)] 56)).alloc (.cells #[] 5)).alloc (.cells #[.int .u8 (op : Int)] 5)) w2.heap.size 56 [.string M, .int .i64 8, .int .i64 (C : Int), .int .i64 (T : Int)] := ((Blk.new w2 56 [.string M, .int .i64 8, .int .i64 (C : Int), .int .i64 (T : Int)]).alloc _).alloc _
  refine (Oct.one_any _ _ 1 w.heap.size [] [(op : Int)] _ hO.1 hO.2 (by simp) hY.size).mono ?_
  rintro e w3 ⟨vP, rfl, hP, hG, hL⟩
  have HP := Lib.hid hP
  have HB3 := Lib.hid (Oct.Laid.above (v' := .nilIface) (l := []) hY hO.1 hG)
  have HK := Lib.hid (hK.grown hG (fun e => Nat.ne_of_lt (Nat.lt_succ_self w2.heap.size) (Option.some.inj e)))
  have k1 : w3.cell? ⟨w2.heap.size, 1, none⟩ = some (.int .i64 8) := HK.out.cell 1
  clear hK
  clear hO hY hP hG hL c0 c1 c2 c3
  obtain ⟨ev, hv, hev⟩ := HE.out.below HB3.out
  have HPU := Lib.hid (Tryd.strconv_ParseUint_10_at64_syntax D HL.out HU.out ev w3 hv hev)
  clear hv hev
  go_wp2_with fail
  refine HPU.out.mono ?_
  rintro e w4 ⟨N2, rfl, hN, _, hB4⟩
  have HB4 := Lib.hid (HB3.out.trans (hB4.mono HB3.out.size))
  clear hN hB4 HB3 HK HP k1 HPU HE
  go_wp2_with fail
  go_ret2
  exact ⟨rfl, HB4.out⟩

set_option maxRecDepth 100000 in
set_option maxHeartbeats 4000000 in
theorem parseLine_range8 (s : ByteArray) (op : Nat) (w : World) (hs : s.size < 4294967281) (HM : Hid (MCell w)) (HT : Hid (KTab w)) (h : (opF (lnName s) 18 0).2 = true) (ho : (opF (lnName s) 18 0).1 = (op : Int)) (hop : op < 18) (hF : fol op = 8) (hf : lnHas s = true) (hu : Lib.parseUintB 64 (lnNum s).data.toList = .range) (hl : (lnNum s).size ≤ 281474976710656) (HE : Hid (ECell 4 w)) :
    Calls Tryd.prog 35 #[.string s] w (BadPost w 10) := by
  have HC := Lib.hid (cutS_any s w hs HM)
  have hk := fun (W : World) (h : KTab W) => h op hop
  obtain ⟨N, hN⟩ : ∃ x, lnName s = x := ⟨_, rfl⟩
  rw [hN] at HC h ho
  obtain ⟨D, hD⟩ : ∃ x, lnNum s = x := ⟨_, rfl⟩
  rw [hD, hf] at HC
  clear hN hf
  go_enter Tryd.func35, Tryd.ntmps35
  go_wp2_with fail
  refine HC.out.mono ?_
  rintro e w1 ⟨rfl, hB1⟩
  have HB1 := Lib.hid hB1
  have HT1 := Lib.hid (HT.out.below hB1 HT.out.lt)
  clear hB1 HC
  go_wp2_with fail
  refine (opOf_any N w1 HT1).mono ?_
  rintro e w2 ⟨rfl, hB2⟩
  have HB2 := Lib.hid (HB1.out.trans (hB2.mono HB1.out.size))
  have hT2 := HT1.out.below hB2 HT1.out.lt
  have c0 : w2.cell? ⟨0, op * 4, none⟩ = some (.string (nm op)) := hk w2 hT2 0 _ rfl
  have c1 : w2.cell? ⟨0, op * 4 + 1, none⟩ = some (.int .i64 (fol op : Int)) := hk w2 hT2 1 _ rfl
  have c2 : w2.cell? ⟨0, op * 4 + 2, none⟩ = some (.int .i64 (cst op : Int)) := hk w2 hT2 2 _ rfl
  have c3 : w2.cell? ⟨0, op * 4 + 3, none⟩ = some (.int .i64 (tks op : Int)) := hk w2 hT2 3 _ rfl
  clear hB2 HB1 hT2 hk
  rw [h, ho]
  obtain ⟨C, hC⟩ : ∃ x, cst op = x := ⟨_, rfl⟩
  obtain ⟨T, hT⟩ : ∃ x, tks op = x := ⟨_, rfl⟩
  obtain ⟨M, hM⟩ : ∃ x, nm op = x := ⟨_, rfl⟩
  rw [hM] at c0
  rw [hF] at c1
  rw [hC] at c2
  rw [hT] at c3
  clear hF hC hT hM h ho
  have o0 : (0 : Int) ≤ (op : Int) := Int.natCast_nonneg _
  have o1 : (op : Int) < 18 := by omega
  rw [hD] at hu hl
  have HU := Lib.hid hu
  have HL := Lib.hid hl
  clear hD hop hs hu hl
  rw [show ((8 : Nat) : Int) = 8 from rfl] at c1
  go_wp2_with fail
  have hO := outs w2 (.cells #[.string M, .int .i64 8, .int .i64 (C : Int), .int .i64 (T : Int)] 56) w.heap.size HB2.out.size (op : Int)
  have hY : Below w.heap.size w (((w2.alloc (.cells #[.string M, .int .i64 8, .int .i64 (C : Int), .int .i64 (T : Int)] 56)).alloc (.cells #[] 5)).alloc (.cells #[.int .u8 (op : Int)] 5)) := ((HB2.out.alloc HB2.out.size _).alloc (by rw [size_alloc]; have := HB2.out.size; omega) _).alloc (by rw [size_alloc, size_alloc]; have := HB2.out.size; omega) _
  have hK : Blk (((w2.alloc (.cells #[.string M, .int .i64 8, .int .i64 (C : Int), .int .i64 (T : Int)] 56)).alloc (.cells #[] 5)).alloc (.cells #[.int .u8 (op : Int)] 5)) w2.heap.size 56 [.string M, .int .i64 8, .int .i64 (C : Int), .int .i64 (T : Int)] := ((Blk.new w2 56 [.string M, .int .i64 8, .int .i64 (C : Int), .int .i64 (T : Int)]).alloc _).alloc _
  refine (Oct.one_any _ _ 1 w.heap.size [] [(op : Int)] _ hO.1 hO.2 (by simp) hY.size).mono ?_
  rintro e w3 ⟨vP, rfl, hP, hG, hL⟩
  have HP := Lib.hid hP
  have HB3 := Lib.hid (Oct.Laid.above (v' := .nilIface) (l := []) hY hO.1 hG)
  have HK := Lib.hid (hK.grown hG (fun e => Nat.ne_of_lt (Nat.lt_succ_self w2.heap.size) (Option.some.inj e)))
  have k1 : w3.cell? ⟨w2.heap.size, 1, none⟩ = some (.int .i64 8) := HK.out.cell 1
  clear hK
  clear hO hY hP hG hL c0 c1 c2 c3
  obtain ⟨ev, hv, hev⟩ := HE.out.below HB3.out
  have HPU := Lib.hid (Tryd.strconv_ParseUint_10_at64_range D HL.out HU.out ev w3 hv hev)
  clear hv hev
  go_wp2_with fail
  refine HPU.out.mono ?_
  rintro e w4 ⟨N2, rfl, hN, _, hB4⟩
  have HB4 := Lib.hid (HB3.out.trans (hB4.mono HB3.out.size))
  clear hN hB4 HB3 HK HP k1 HPU HE
  go_wp2_with fail
  go_ret2
  exact ⟨rfl, HB4.out⟩

set_option maxRecDepth 100000 in
set_option maxHeartbeats 4000000 in
theorem parseLine_unlike8 (s : ByteArray) (op : Nat) (w : World) (hs : s.size < 4294967281) (HM : Hid (MCell w)) (HT : Hid (KTab w)) (h : (opF (lnName s) 18 0).2 = true) (ho : (opF (lnName s) 18 0).1 = (op : Int)) (hop : op < 18) (hF : fol op = 8) (hf : lnHas s = true) (u : Nat) (hu : Lib.parseUintB 64 (lnNum s).data.toList = .ok u) (hu64 : u < 18446744073709551616) (hd : (⟨(Lib.decDigits u).toArray⟩ : ByteArray) ≠ lnNum s) (hl : (lnNum s).size ≤ 9223372036854775806) (HPT : Hid (PTab w)) :
    Calls Tryd.prog 35 #[.string s] w (BadPost w 10) := by
  have HC := Lib.hid (cutS_any s w hs HM)
  have hk := fun (W : World) (h : KTab W) => h op hop
  obtain ⟨N, hN⟩ : ∃ x, lnName s = x := ⟨_, rfl⟩
  rw [hN] at HC h ho
  obtain ⟨D, hD⟩ : ∃ x, lnNum s = x := ⟨_, rfl⟩
  rw [hD, hf] at HC
  clear hN hf
  go_enter Tryd.func35, Tryd.ntmps35
  go_wp2_with fail
  refine HC.out.mono ?_
  rintro e w1 ⟨rfl, hB1⟩
  have HB1 := Lib.hid hB1
  have HT1 := Lib.hid (HT.out.below hB1 HT.out.lt)
  clear hB1 HC
  go_wp2_with fail
  refine (opOf_any N w1 HT1).mono ?_
  rintro e w2 ⟨rfl, hB2⟩
  have HB2 := Lib.hid (HB1.out.trans (hB2.mono HB1.out.size))
  have hT2 := HT1.out.below hB2 HT1.out.lt
  have c0 : w2.cell? ⟨0, op * 4, none⟩ = some (.string (nm op)) := hk w2 hT2 0 _ rfl
  have c1 : w2.cell? ⟨0, op * 4 + 1, none⟩ = some (.int .i64 (fol op : Int)) := hk w2 hT2 1 _ rfl
  have c2 : w2.cell? ⟨0, op * 4 + 2, none⟩ = some (.int .i64 (cst op : Int)) := hk w2 hT2 2 _ rfl
  have c3 : w2.cell? ⟨0, op * 4 + 3, none⟩ = some (.int .i64 (tks op : Int)) := hk w2 hT2 3 _ rfl
  clear hB2 HB1 hT2 hk
  rw [h, ho]
  obtain ⟨C, hC⟩ : ∃ x, cst op = x := ⟨_, rfl⟩
  obtain ⟨T, hT⟩ : ∃ x, tks op = x := ⟨_, rfl⟩
  obtain ⟨M, hM⟩ : ∃ x, nm op = x := ⟨_, rfl⟩
  rw [hM] at c0
  rw [hF] at c1
  rw [hC] at c2
  rw [hT] at c3
  clear hF hC hT hM h ho
  have o0 : (0 : Int) ≤ (op : Int) := Int.natCast_nonneg _
  have o1 : (op : Int) < 18 := by omega
  rw [hD] at hu hd hl
  have HU := Lib.hid hu
  have HL := Lib.hid hl
  have HU64 := Lib.hid hu64
  have HD := Lib.hid hd
  clear hD hop hs hu hl hu64 hd
  rw [show ((8 : Nat) : Int) = 8 from rfl] at c1
  go_wp2_with fail
  have hO := outs w2 (.cells #[.string M, .int .i64 8, .int .i64 (C : Int), .int .i64 (T : Int)] 56) w.heap.size HB2.out.size (op : Int)
  have hY : Below w.heap.size w (((w2.alloc (.cells #[.string M, .int .i64 8, .int .i64 (C : Int), .int .i64 (T : Int)] 56)).alloc (.cells #[] 5)).alloc (.cells #[.int .u8 (op : Int)] 5)) := ((HB2.out.alloc HB2.out.size _).alloc (by rw [size_alloc]; have := HB2.out.size; omega) _).alloc (by rw [size_alloc, size_alloc]; have := HB2.out.size; omega) _
  have hK : Blk (((w2.alloc (.cells #[.string M, .int .i64 8, .int .i64 (C : Int), .int .i64 (T : Int)] 56)).alloc (.cells #[] 5)).alloc (.cells #[.int .u8 (op : Int)] 5)) w2.heap.size 56 [.string M, .int .i64 8, .int .i64 (C : Int), .int .i64 (T : Int)] := ((Blk.new w2 56 [.string M, .int .i64 8, .int .i64 (C : Int), .int .i64 (T : Int)]).alloc _).alloc _
  refine (Oct.one_any _ _ 1 w.heap.size [] [(op : Int)] _ hO.1 hO.2 (by simp) hY.size).mono ?_
  rintro e w3 ⟨vP, rfl, hP, hG, hL⟩
  have HP := Lib.hid hP
  have HB3 := Lib.hid (Oct.Laid.above (v' := .nilIface) (l := []) hY hO.1 hG)
  have HK := Lib.hid (hK.grown hG (fun e => Nat.ne_of_lt (Nat.lt_succ_self w2.heap.size) (Option.some.inj e)))
  have k1 : w3.cell? ⟨w2.heap.size, 1, none⟩ = some (.int .i64 8) := HK.out.cell 1
  clear hK
  clear hO hY hP hG hL c0 c1 c2 c3
  have HPT3 : Hid (PTab w3) := Lib.hid (PTab.below HPT.out HB3.out)
  go_wp2_with fail
  refine (Tryd.strconv_ParseUint_10_at64_ok D HL.out u HU.out w3).mono ?_
  rintro e w4 ⟨rfl, hw4⟩
  have hB4 : Below w3.heap.size w3 w4 := by
    rcases hw4 with rfl | rfl
    · exact Below.refl _ _
    · exact Lib.bytesWorld_below _ _ _
  have HB4 := Lib.hid (HB3.out.trans (hB4.mono HB3.out.size))
  have HPT4 : Hid (PTab w4) := Lib.hid (PTab.below HPT.out HB4.out)
  clear hw4 hB4 HB3 HK HP k1 HPT3
  go_wp2_with fail
  refine (fmt_any u HU64.out w4 HPT4).mono ?_
  rintro e w5 ⟨rfl, hB5⟩
  have HB5 := Lib.hid (HB4.out.trans (hB5.mono HB4.out.size))
  have hd := HD.out
  obtain ⟨DD, hDD⟩ : ∃ x, (⟨(Lib.decDigits u).toArray⟩ : ByteArray) = x := ⟨_, rfl⟩
  rw [hDD] at hd ⊢
  have d1 : (DD.toList == D.toList) = false := bne_list hd
  clear hDD hd HD hB5 HB4 HPT4
  go_wp2_with fail
  go_ret2
  exact ⟨rfl, HB5.out⟩

end Go.Proofs.YtkilajobnlagbaaDoor
