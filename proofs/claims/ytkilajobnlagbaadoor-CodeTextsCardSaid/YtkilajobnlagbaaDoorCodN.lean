/-
  parseLine: a line that tells an order.
-/
import Derived.Test.YtkilajobnlagbaaDoorCodM
namespace Go.Proofs.YtkilajobnlagbaaDoor
open Go.RowKit
set_option linter.unusedVariables false

theorem up1 (w : World) (o : Obj) : Below w.heap.size w (w.alloc o) := (Below.refl _ _).alloc (Nat.le_refl _) _
theorem size_alloc (w : World) (o : Obj) : (w.alloc o).heap.size = w.heap.size + 1 := by simp
theorem PTab.below {w w' : World} (h : PTab w) (hB : Below w.heap.size w w') : PTab w' := by
  unfold PTab Lib.TabIs World.var? at h ⊢
  cases hg : Tryd.prog.globalNamed "internal/strconv.uint64pow10" with
  | none => rw [hg] at h; cases h
  | some g =>
    rw [hg] at h
    simp only [Option.bind_some] at h ⊢
    rw [hB.block g ?_]
    · exact h
    · rcases Nat.lt_or_ge g w.heap.size with h2 | h2
      · exact h2
      · rw [Array.getElem?_eq_none h2] at h; cases h
theorem outs (w2 : World) (K : Obj) (base : Nat) (hb : base ≤ w2.heap.size) (op : Int) : Oct.Own (((w2.alloc K).alloc (.cells #[] 5)).alloc (.cells #[.int .u8 op] 5)) base (.slice (some ⟨w2.heap.size + 1, 0, none⟩) 0 0) [] ∧ Oct.Src (((w2.alloc K).alloc (.cells #[] 5)).alloc (.cells #[.int .u8 op] 5)) (some ⟨w2.heap.size + 1 + 1, 0, none⟩) 1 [op] := by
  have h1 : Oct.Own ((w2.alloc K).alloc (.cells #[] 5)) base (.slice (some ⟨(w2.alloc K).heap.size, 0, none⟩) 0 0) [] := World.ownsRow_lit (w2.alloc K) #[] 0 (by rw [size_alloc]; omega) (by decide) rfl
  have h2 := Oct.Src.one ((w2.alloc K).alloc (.cells #[] 5)) op
  have h3 := h1.below (up1 ((w2.alloc K).alloc (.cells #[] 5)) (.cells #[.int .u8 op] 5))
  simp only [size_alloc] at h2 h3
  exact ⟨h3, h2⟩
theorem outs8 (w2 : World) (base : Nat) (hb : base ≤ w2.heap.size) (u : Int) : Oct.Own ((w2.alloc (.cells #[] 5)).alloc (.cells #[.int .u64 u] 25)) base (.slice (some ⟨w2.heap.size, 0, none⟩) 0 0) [] ∧ Oct.Rd .u64 ((w2.alloc (.cells #[] 5)).alloc (.cells #[.int .u64 u] 25)) (some ⟨w2.heap.size + 1, 0, none⟩) [u] := by
  have h1 : Oct.Own (w2.alloc (.cells #[] 5)) base (.slice (some ⟨w2.heap.size, 0, none⟩) 0 0) [] := World.ownsRow_lit w2 #[] 0 (by omega) (by decide) rfl
  have h2 := Oct.Rd.lit .u64 25 (w2.alloc (.cells #[] 5)) #[.int .u64 u] [u] rfl
  have h3 := h1.below (up1 (w2.alloc (.cells #[] 5)) (.cells #[.int .u64 u] 25))
  simp only [size_alloc] at h2
  exact ⟨h3, h2⟩
/-- Bytes behind a place. -/
theorem cutLo8 (g o L c h : Nat) (hh : h ≤ L) (hc : L ≤ c) (W : World) : (Instr.slice 104 (.slice (some ⟨g, o, none⟩) L c) (some (.int .i64 (h : Int))) none none).run Tryd.prog W = .ok (.slice (some ⟨g, Oct.cutPlace o c h, none⟩) (L - h) (c - h)) W := by
  obtain ⟨i0, hi0, hz0, hz1, hz2⟩ := info_parts Oct.byte_info
  rw [run_slice_l (P := Tryd.prog) W 104 _ L c (by kernel_rfl) .i64 (h : Int) (by omega) (by omega), show Tryd.prog.elem 104 = 5 by kernel_rfl]
  by_cases e : c = h <;> simp [sizeOf, typeInfo, hi0, hz1, sliced, Oct.cutPlace, e, Go.WideShapes.add_plain]
theorem src_drop {w : World} {g o c : Nat} {l : List Int} (h : Oct.Src w (some ⟨g, o, none⟩) c l) (lo : Nat) (hlo : lo < l.length) (hc : l.length ≤ c) : Oct.Src w (some ⟨g, Oct.cutPlace o c lo, none⟩) (c - lo) (l.drop lo) := by
  refine ⟨fun h => (by cases h), .inr ?_⟩
  rcases h.2 with hs | ⟨b, off, he, hlt, hs⟩
  · rw [hs] at hlo; simp at hlo
  · injection he with he
    injection he with h1 h2
    subst h1 h2
    refine ⟨g, _, rfl, hlt, fun i hi => ?_⟩
    have hi' : lo + i < l.length := by simp at hi; omega
    rw [Oct.cutPlace, if_neg (by omega), Nat.add_assoc, hs (lo + i) hi']
    simp [List.getD]
/-- What a line that tells an order is laid as. -/
def LnPost (w : World) (l : List Int) (e : Ending) (w' : World) : Prop := ∃ v, e = .returned (.tuple #[v, .int .i64 0]) ∧ Oct.Own w' w.heap.size v l ∧ Below w.heap.size w w'

set_option maxRecDepth 100000 in
set_option maxHeartbeats 4000000 in
theorem parseLine_plain (s : ByteArray) (op : Nat) (w : World) (hs : s.size < 4294967281) (HM : Hid (MCell w)) (HT : Hid (KTab w)) (h : (opF (lnName s) 18 0).2 = true) (ho : (opF (lnName s) 18 0).1 = (op : Int)) (hop : op < 18) (hF : fol op = 0) (hf : lnHas s = false) :
    Calls Tryd.prog 35 #[.string s] w (LnPost w [(op : Int)]) := by
  have HC := Lib.hid (cutS_any s w hs HM)
  have hk := fun (W : World) (h : KTab W) => h op hop
  obtain ⟨N, hN⟩ : ∃ x, lnName s = x := ⟨_, rfl⟩
  rw [hN] at HC h ho
  obtain ⟨D, hD⟩ : ∃ x, lnNum s = x := ⟨_, rfl⟩
  rw [hD, hf] at HC
  clear hN hf
  go_enter Tryd.func35, Tryd.ntmps35
  go_wp2_with fail
  refine HC.out.mono ?_
  rintro e w1 ⟨rfl, hB1⟩
  have HB1 := Lib.hid hB1
  have HT1 := Lib.hid (HT.out.below hB1 HT.out.lt)
  clear hB1 HC
  go_wp2_with fail
  refine (opOf_any N w1 HT1).mono ?_
  rintro e w2 ⟨rfl, hB2⟩
  have HB2 := Lib.hid (HB1.out.trans (hB2.mono HB1.out.size))
  have hT2 := HT1.out.below hB2 HT1.out.lt
  have c0 : w2.cell? ⟨0, op * 4, none⟩ = some (.string (nm op)) := hk w2 hT2 0 _ rfl
  have c1 : w2.cell? ⟨0, op * 4 + 1, none⟩ = some (.int .i64 (fol op : Int)) := hk w2 hT2 1 _ rfl
  have c2 : w2.cell? ⟨0, op * 4 + 2, none⟩ = some (.int .i64 (cst op : Int)) := hk w2 hT2 2 _ rfl
  have c3 : w2.cell? ⟨0, op * 4 + 3, none⟩ = some (.int .i64 (tks op : Int)) := hk w2 hT2 3 _ rfl
  clear hB2 HB1 hT2 hk
  rw [h, ho]
  obtain ⟨C, hC⟩ : ∃ x, cst op = x := ⟨_, rfl⟩
  obtain ⟨T, hT⟩ : ∃ x, tks op = x := ⟨_, rfl⟩
  obtain ⟨M, hM⟩ : ∃ x, nm op = x := ⟨_, rfl⟩
  rw [hM] at c0
  rw [hF] at c1
  rw [hC] at c2
  rw [hT] at c3
  clear hF hC hT hM h ho
  have o0 : (0 : Int) ≤ (op : Int) := Int.natCast_nonneg _
  have o1 : (op : Int) < 18 := by omega
  clear hD hop hs
  rw [show ((0 : Nat) : Int) = 0 from rfl] at c1
  go_wp2_with fail
  have hO := outs w2 (.cells #[.string M, .int .i64 0, .int .i64 (C : Int), .int .i64 (T : Int)] 56) w.heap.size HB2.out.size (op : Int)
  have hY : Below w.heap.size w (((w2.alloc (.cells #[.string M, .int .i64 0, .int .i64 (C : Int), .int .i64 (T : Int)] 56)).alloc (.cells #[] 5)).alloc (.cells #[.int .u8 (op : Int)] 5)) := ((HB2.out.alloc HB2.out.size _).alloc (by rw [size_alloc]; have := HB2.out.size; omega) _).alloc (by rw [size_alloc, size_alloc]; have := HB2.out.size; omega) _
  refine (Oct.one_any _ _ 1 w.heap.size [] [(op : Int)] _ hO.1 hO.2 (by simp) hY.size).mono ?_
  rintro e w3 ⟨vP, rfl, hP, hG, hL⟩
  have HP := Lib.hid hP
  have HB3 := Lib.hid (Oct.Laid.above (v' := .nilIface) (l := []) hY hO.1 hG)
  clear hO hY hP hG hL c0 c1 c2 c3
  go_wp2_with fail
  go_ret2
  exact ⟨_, rfl, HP.out, HB3.out⟩

set_option maxRecDepth 100000 in
set_option maxHeartbeats 8000000 in
theorem parseLine_num1 (s : ByteArray) (op : Nat) (w : World) (hs : s.size < 4294967281) (HM : Hid (MCell w)) (HT : Hid (KTab w)) (h : (opF (lnName s) 18 0).2 = true) (ho : (opF (lnName s) 18 0).1 = (op : Int)) (hop : op < 18) (hF : fol op = 1) (hf : lnHas s = true) (u : Nat) (hu : Lib.parseUintB 8 (lnNum s).data.toList = .ok u) (hu64 : u < 18446744073709551616) (hd : (⟨(Lib.decDigits u).toArray⟩ : ByteArray) = lnNum s) (hl : (lnNum s).size ≤ 9223372036854775806) (HPT : Hid (PTab w)) :
    Calls Tryd.prog 35 #[.string s] w (LnPost w ((op : Int) :: (Oct.be8 (u : Int)).drop 7)) := by
  have HC := Lib.hid (cutS_any s w hs HM)
  have hk := fun (W : World) (h : KTab W) => h op hop
  obtain ⟨N, hN⟩ : ∃ x, lnName s = x := ⟨_, rfl⟩
  rw [hN] at HC h ho
  obtain ⟨D, hD⟩ : ∃ x, lnNum s = x := ⟨_, rfl⟩
  rw [hD, hf] at HC
  clear hN hf
  go_enter Tryd.func35, Tryd.ntmps35
  go_wp2_with fail
  refine HC.out.mono ?_
  rintro e w1 ⟨rfl, hB1⟩
  have HB1 := Lib.hid hB1
  have HT1 := Lib.hid (HT.out.below hB1 HT.out.lt)
  clear hB1 HC
  go_wp2_with fail
  refine (opOf_any N w1 HT1).mono ?_
  rintro e w2 ⟨rfl, hB2⟩
  have HB2 := Lib.hid (HB1.out.trans (hB2.mono HB1.out.size))
  have hT2 := HT1.out.below hB2 HT1.out.lt
  have c0 : w2.cell? ⟨0, op * 4, none⟩ = some (.string (nm op)) := hk w2 hT2 0 _ rfl
  have c1 : w2.cell? ⟨0, op * 4 + 1, none⟩ = some (.int .i64 (fol op : Int)) := hk w2 hT2 1 _ rfl
  have c2 : w2.cell? ⟨0, op * 4 + 2, none⟩ = some (.int .i64 (cst op : Int)) := hk w2 hT2 2 _ rfl
  have c3 : w2.cell? ⟨0, op * 4 + 3, none⟩ = some (.int .i64 (tks op : Int)) := hk w2 hT2 3 _ rfl
  clear hB2 HB1 hT2 hk
  rw [h, ho]
  obtain ⟨C, hC⟩ : ∃ x, cst op = x := ⟨_, rfl⟩
  obtain ⟨T, hT⟩ : ∃ x, tks op = x := ⟨_, rfl⟩
  obtain ⟨M, hM⟩ : ∃ x, nm op = x := ⟨_, rfl⟩
  rw [hM] at c0
  rw [hF] at c1
  rw [hC] at c2
  rw [hT] at c3
  clear hF hC hT hM h ho
  have o0 : (0 : Int) ≤ (op : Int) := Int.natCast_nonneg _
  have o1 : (op : Int) < 18 := by omega
  rw [hD] at hu hd hl
  have HU := Lib.hid hu
  have HD := Lib.hid hd
  have HL := Lib.hid hl
  have HU64 := Lib.hid hu64
  clear hD hop hs hu hd hl hu64
  rw [show ((1 : Nat) : Int) = 1 from rfl] at c1
  go_wp2_with fail
  have hO := outs w2 (.cells #[.string M, .int .i64 1, .int .i64 (C : Int), .int .i64 (T : Int)] 56) w.heap.size HB2.out.size (op : Int)
  have hY : Below w.heap.size w (((w2.alloc (.cells #[.string M, .int .i64 1, .int .i64 (C : Int), .int .i64 (T : Int)] 56)).alloc (.cells #[] 5)).alloc (.cells #[.int .u8 (op : Int)] 5)) := ((HB2.out.alloc HB2.out.size _).alloc (by rw [size_alloc]; have := HB2.out.size; omega) _).alloc (by rw [size_alloc, size_alloc]; have := HB2.out.size; omega) _
  have hK : Blk (((w2.alloc (.cells #[.string M, .int .i64 1, .int .i64 (C : Int), .int .i64 (T : Int)] 56)).alloc (.cells #[] 5)).alloc (.cells #[.int .u8 (op : Int)] 5)) w2.heap.size 56 [.string M, .int .i64 1, .int .i64 (C : Int), .int .i64 (T : Int)] := ((Blk.new w2 56 [.string M, .int .i64 1, .int .i64 (C : Int), .int .i64 (T : Int)]).alloc _).alloc _
  refine (Oct.one_any _ _ 1 w.heap.size [] [(op : Int)] _ hO.1 hO.2 (by simp) hY.size).mono ?_
  rintro e w3 ⟨vP, rfl, hP, hG, hL⟩
  have HP := Lib.hid hP
  have HB3 := Lib.hid (Oct.Laid.above (v' := .nilIface) (l := []) hY hO.1 hG)
  have HK := Lib.hid (hK.grown hG (fun e => Nat.ne_of_lt (Nat.lt_succ_self w2.heap.size) (Option.some.inj e)))
  have k1 : w3.cell? ⟨w2.heap.size, 1, none⟩ = some (.int .i64 1) := HK.out.cell 1
  clear hK
  clear hO hY hP hG hL c0 c1 c2 c3
  have HPT3 : Hid (PTab w3) := Lib.hid (PTab.below HPT.out HB3.out)
  go_wp2_with fail
  refine (Tryd.strconv_ParseUint_10_at8_ok D HL.out u HU.out w3).mono ?_
  rintro e w4 ⟨rfl, hw4⟩
  have hB4 : Below w3.heap.size w3 w4 := by
    rcases hw4 with rfl | rfl
    · exact Below.refl _ _
    · exact Lib.bytesWorld_below _ _ _
  have HB4 := Lib.hid (HB3.out.trans (hB4.mono HB3.out.size))
  have HK4 := Lib.hid (HK.out.below hB4 HK.out.lt)
  have HP4 := Lib.hid (Oct.Own.below HP.out hB4)
  have HPT4 : Hid (PTab w4) := Lib.hid (PTab.below HPT.out HB4.out)
  clear hw4 hB4 HB3 HK HP k1 HPT3
  go_wp2_with fail
  refine (fmt_any u HU64.out w4 HPT4).mono ?_
  rintro e w5 ⟨rfl, hB5⟩
  have HB5 := Lib.hid (HB4.out.trans (hB5.mono HB4.out.size))
  have HK5 := Lib.hid (HK4.out.below hB5 HK4.out.lt)
  have HP5 := Lib.hid (Oct.Own.below HP4.out hB5)
  clear hB5 HB4 HK4 HP4 HPT4
  rw [HD.out]
  go_wp2_with fail
  have hO := outs8 w5 w.heap.size HB5.out.size (u : Int)
  have hY : Below w.heap.size w ((w5.alloc (.cells #[] 5)).alloc (.cells #[.int .u64 (u : Int)] 25)) := (HB5.out.alloc HB5.out.size _).alloc (by rw [size_alloc]; have := HB5.out.size; omega) _
  have hK : Blk ((w5.alloc (.cells #[] 5)).alloc (.cells #[.int .u64 (u : Int)] 25)) w2.heap.size 56 [.string M, .int .i64 1, .int .i64 (C : Int), .int .i64 (T : Int)] := (HK5.out.alloc _).alloc _
  have hP5 : Oct.Own ((w5.alloc (.cells #[] 5)).alloc (.cells #[.int .u64 (u : Int)] 25)) w.heap.size vP ([] ++ [(op : Int)]) := Oct.Own.below (Oct.Own.below HP5.out (up1 _ _)) (up1 _ _)
  have h8 := Oct.eight_any _ _ 1 w.heap.size [] [(u : Int)] _ hO.1 hO.2 (by intro n hn; rw [List.mem_singleton] at hn; subst hn; have := HU64.out; omega) (by simp) hY.size
  refine h8.mono ?_
  rintro e w6 ⟨vE, rfl, hE, hG, hL⟩
  have HB6 := Lib.hid (Oct.Laid.above (v' := .nilIface) (l := []) hY hO.1 hG)
  have HK6 := Lib.hid (hK.grown hG (fun e => Nat.ne_of_lt HK5.out.lt (Option.some.inj e)))
  have HP6 : Hid (Oct.Own w6 w.heap.size vP ([] ++ [(op : Int)])) := Lib.hid (World.ownsRow.kept hP5 hG (by
    cases hv : vP.ownBlock with
    | none => exact .inl rfl
    | some k => exact .inr (fun e => Nat.ne_of_lt (World.ownsRow.lt HP5.out k hv).2 (Option.some.inj e))))
  have k1 : w6.cell? ⟨w2.heap.size, 1, none⟩ = some (.int .i64 1) := HK6.out.cell 1
  rw [List.nil_append, Oct.be8s_one] at hE
  have hl8 : (Oct.be8 (u : Int)).length = 8 := by have := Oct.be8s_length [(u : Int)]; rw [Oct.be8s_one] at this; exact this
  obtain ⟨A, cap, rfl, hS⟩ := Oct.Own.src hE
  rw [hl8] at hE
  obtain ⟨g, rfl⟩ : ∃ g, A = some ⟨g, 0, none⟩ := by
    obtain ⟨A', c', e, h0, _⟩ := own_slice hE
    obtain ⟨g, e2, _⟩ := h0 (by omega)
    injection e with e _ _
    exact ⟨g, e.trans e2⟩
  have hcap : 8 ≤ cap := by
    rcases hE.2 with ⟨e, _⟩ | ⟨g', c', cur, e, _, _, h1, _⟩
    · cases e
    · injection e with _ _ e
      omega
  rw [hl8]
  have hs1 : ∀ W, (Instr.slice 104 (.slice (some ⟨g, 0, none⟩) 8 cap) (some (.int .i64 7)) none none).run Tryd.prog W = .ok (.slice (some ⟨g, Oct.cutPlace 0 cap 7, none⟩) 1 (cap - 7)) W := fun W => cutLo8 g 0 8 cap 7 (by omega) hcap W
  have HS := Lib.hid (src_drop hS 7 (by omega) (by omega))
  clear hO hY hK hP5 h8 hE hG hL HB5 HK5 HP5 hS hcap
  have hld : ((Oct.be8 (u : Int)).drop 7).length = 1 := by rw [List.length_drop, hl8]
  clear hl8
  go_wp2_with fail
  have h9 := Oct.one_any vP (some ⟨g, Oct.cutPlace 0 cap 7, none⟩) (cap - 7) w.heap.size ([] ++ [(op : Int)]) ((Oct.be8 (u : Int)).drop 7) w6 HP6.out HS.out (by rw [hld]; simp) HB6.out.size
  rw [hld] at h9
  refine h9.mono ?_
  rintro e w7 ⟨v7, rfl, h7, hG, hL⟩
  have HP7 := Lib.hid h7
  have HB7 := Lib.hid (HB6.out.trans (Below.grown (Below.refl _ _) hG HB6.out.size (fun j hj => (World.ownsRow.lt HP6.out j hj).1)))
  clear h9 h7 hG hL k1 hs1 hld HK6 HP6 HB6 HS
  go_wp2_with fail
  go_ret2
  exact ⟨_, rfl, HP7.out, HB7.out⟩

set_option maxRecDepth 100000 in
set_option maxHeartbeats 8000000 in
theorem parseLine_num2 (s : ByteArray) (op : Nat) (w : World) (hs : s.size < 4294967281) (HM : Hid (MCell w)) (HT : Hid (KTab w)) (h : (opF (lnName s) 18 0).2 = true) (ho : (opF (lnName s) 18 0).1 = (op : Int)) (hop : op < 18) (hF : fol op = 2) (hf : lnHas s = true) (u : Nat) (hu : Lib.parseUintB 16 (lnNum s).data.toList = .ok u) (hu64 : u < 18446744073709551616) (hd : (⟨(Lib.decDigits u).toArray⟩ : ByteArray) = lnNum s) (hl : (lnNum s).size ≤ 9223372036854775806) (HPT : Hid (PTab w)) :
    Calls Tryd.prog 35 #[.string s] w (LnPost w ((op : Int) :: (Oct.be8 (u : Int)).drop 6)) := by
  have HC := Lib.hid (cutS_any s w hs HM)
  have hk := fun (W : World) (h : KTab W) => h op hop
  obtain ⟨N, hN⟩ : ∃ x, lnName s = x := ⟨_, rfl⟩
  rw [hN] at HC h ho
  obtain ⟨D, hD⟩ : ∃ x, lnNum s = x := ⟨_, rfl⟩
  rw [hD, hf] at HC
  clear hN hf
  go_enter Tryd.func35, Tryd.ntmps35
  go_wp2_with fail
  refine HC.out.mono ?_
  rintro e w1 ⟨rfl, hB1⟩
  have HB1 := Lib.hid hB1
  have HT1 := Lib.hid (HT.out.below hB1 HT.out.lt)
  clear hB1 HC
  go_wp2_with fail
  refine (opOf_any N w1 HT1).mono ?_
  rintro e w2 ⟨rfl, hB2⟩
  have HB2 := Lib.hid (HB1.out.trans (hB2.mono HB1.out.size))
  have hT2 := HT1.out.below hB2 HT1.out.lt
  have c0 : w2.cell? ⟨0, op * 4, none⟩ = some (.string (nm op)) := hk w2 hT2 0 _ rfl
  have c1 : w2.cell? ⟨0, op * 4 + 1, none⟩ = some (.int .i64 (fol op : Int)) := hk w2 hT2 1 _ rfl
  have c2 : w2.cell? ⟨0, op * 4 + 2, none⟩ = some (.int .i64 (cst op : Int)) := hk w2 hT2 2 _ rfl
  have c3 : w2.cell? ⟨0, op * 4 + 3, none⟩ = some (.int .i64 (tks op : Int)) := hk w2 hT2 3 _ rfl
  clear hB2 HB1 hT2 hk
  rw [h, ho]
  obtain ⟨C, hC⟩ : ∃ x, cst op = x := ⟨_, rfl⟩
  obtain ⟨T, hT⟩ : ∃ x, tks op = x := ⟨_, rfl⟩
  obtain ⟨M, hM⟩ : ∃ x, nm op = x := ⟨_, rfl⟩
  rw [hM] at c0
  rw [hF] at c1
  rw [hC] at c2
  rw [hT] at c3
  clear hF hC hT hM h ho
  have o0 : (0 : Int) ≤ (op : Int) := Int.natCast_nonneg _
  have o1 : (op : Int) < 18 := by omega
  rw [hD] at hu hd hl
  have HU := Lib.hid hu
  have HD := Lib.hid hd
  have HL := Lib.hid hl
  have HU64 := Lib.hid hu64
  clear hD hop hs hu hd hl hu64
  rw [show ((2 : Nat) : Int) = 2 from rfl] at c1
  go_wp2_with fail
  have hO := outs w2 (.cells #[.string M, .int .i64 2, .int .i64 (C : Int), .int .i64 (T : Int)] 56) w.heap.size HB2.out.size (op : Int)
  have hY : Below w.heap.size w (((w2.alloc (.cells #[.string M, .int .i64 2, .int .i64 (C : Int), .int .i64 (T : Int)] 56)).alloc (.cells #[] 5)).alloc (.cells #[.int .u8 (op : Int)] 5)) := ((HB2.out.alloc HB2.out.size _).alloc (by rw [size_alloc]; have := HB2.out.size; omega) _).alloc (by rw [size_alloc, size_alloc]; have := HB2.out.size; omega) _
  have hK : Blk (((w2.alloc (.cells #[.string M, .int .i64 2, .int .i64 (C : Int), .int .i64 (T : Int)] 56)).alloc (.cells #[] 5)).alloc (.cells #[.int .u8 (op : Int)] 5)) w2.heap.size 56 [.string M, .int .i64 2, .int .i64 (C : Int), .int .i64 (T : Int)] := ((Blk.new w2 56 [.string M, .int .i64 2, .int .i64 (C : Int), .int .i64 (T : Int)]).alloc _).alloc _
  refine (Oct.one_any _ _ 1 w.heap.size [] [(op : Int)] _ hO.1 hO.2 (by simp) hY.size).mono ?_
  rintro e w3 ⟨vP, rfl, hP, hG, hL⟩
  have HP := Lib.hid hP
  have HB3 := Lib.hid (Oct.Laid.above (v' := .nilIface) (l := []) hY hO.1 hG)
  have HK := Lib.hid (hK.grown hG (fun e => Nat.ne_of_lt (Nat.lt_succ_self w2.heap.size) (Option.some.inj e)))
  have k1 : w3.cell? ⟨w2.heap.size, 1, none⟩ = some (.int .i64 2) := HK.out.cell 1
  clear hK
  clear hO hY hP hG hL c0 c1 c2 c3
  have HPT3 : Hid (PTab w3) := Lib.hid (PTab.below HPT.out HB3.out)
  go_wp2_with fail
  refine (Tryd.strconv_ParseUint_10_at16_ok D HL.out u HU.out w3).mono ?_
  rintro e w4 ⟨rfl, hw4⟩
  have hB4 : Below w3.heap.size w3 w4 := by
    rcases hw4 with rfl | rfl
    · exact Below.refl _ _
    · exact Lib.bytesWorld_below _ _ _
  have HB4 := Lib.hid (HB3.out.trans (hB4.mono HB3.out.size))
  have HK4 := Lib.hid (HK.out.below hB4 HK.out.lt)
  have HP4 := Lib.hid (Oct.Own.below HP.out hB4)
  have HPT4 : Hid (PTab w4) := Lib.hid (PTab.below HPT.out HB4.out)
  clear hw4 hB4 HB3 HK HP k1 HPT3
  go_wp2_with fail
  refine (fmt_any u HU64.out w4 HPT4).mono ?_
  rintro e w5 ⟨rfl, hB5⟩
  have HB5 := Lib.hid (HB4.out.trans (hB5.mono HB4.out.size))
  have HK5 := Lib.hid (HK4.out.below hB5 HK4.out.lt)
  have HP5 := Lib.hid (Oct.Own.below HP4.out hB5)
  clear hB5 HB4 HK4 HP4 HPT4
  rw [HD.out]
  go_wp2_with fail
  have hO := outs8 w5 w.heap.size HB5.out.size (u : Int)
  have hY : Below w.heap.size w ((w5.alloc (.cells #[] 5)).alloc (.cells #[.int .u64 (u : Int)] 25)) := (HB5.out.alloc HB5.out.size _).alloc (by rw [size_alloc]; have := HB5.out.size; omega) _
  have hK : Blk ((w5.alloc (.cells #[] 5)).alloc (.cells #[.int .u64 (u : Int)] 25)) w2.heap.size 56 [.string M, .int .i64 2, .int .i64 (C : Int), .int .i64 (T : Int)] := (HK5.out.alloc _).alloc _
  have hP5 : Oct.Own ((w5.alloc (.cells #[] 5)).alloc (.cells #[.int .u64 (u : Int)] 25)) w.heap.size vP ([] ++ [(op : Int)]) := Oct.Own.below (Oct.Own.below HP5.out (up1 _ _)) (up1 _ _)
  have h8 := Oct.eight_any _ _ 1 w.heap.size [] [(u : Int)] _ hO.1 hO.2 (by intro n hn; rw [List.mem_singleton] at hn; subst hn; have := HU64.out; omega) (by simp) hY.size
  refine h8.mono ?_
  rintro e w6 ⟨vE, rfl, hE, hG, hL⟩
  have HB6 := Lib.hid (Oct.Laid.above (v' := .nilIface) (l := []) hY hO.1 hG)
  have HK6 := Lib.hid (hK.grown hG (fun e => Nat.ne_of_lt HK5.out.lt (Option.some.inj e)))
  have HP6 : Hid (Oct.Own w6 w.heap.size vP ([] ++ [(op : Int)])) := Lib.hid (World.ownsRow.kept hP5 hG (by
    cases hv : vP.ownBlock with
    | none => exact .inl rfl
    | some k => exact .inr (fun e => Nat.ne_of_lt (World.ownsRow.lt HP5.out k hv).2 (Option.some.inj e))))
  have k1 : w6.cell? ⟨w2.heap.size, 1, none⟩ = some (.int .i64 2) := HK6.out.cell 1
  rw [List.nil_append, Oct.be8s_one] at hE
  have hl8 : (Oct.be8 (u : Int)).length = 8 := by have := Oct.be8s_length [(u : Int)]; rw [Oct.be8s_one] at this; exact this
  obtain ⟨A, cap, rfl, hS⟩ := Oct.Own.src hE
  rw [hl8] at hE
  obtain ⟨g, rfl⟩ : ∃ g, A = some ⟨g, 0, none⟩ := by
    obtain ⟨A', c', e, h0, _⟩ := own_slice hE
    obtain ⟨g, e2, _⟩ := h0 (by omega)
    injection e with e _ _
    exact ⟨g, e.trans e2⟩
  have hcap : 8 ≤ cap := by
    rcases hE.2 with ⟨e, _⟩ | ⟨g', c', cur, e, _, _, h1, _⟩
    · cases e
    · injection e with _ _ e
      omega
  rw [hl8]
  have hs1 : ∀ W, (Instr.slice 104 (.slice (some ⟨g, 0, none⟩) 8 cap) (some (.int .i64 6)) none none).run Tryd.prog W = .ok (.slice (some ⟨g, Oct.cutPlace 0 cap 6, none⟩) 2 (cap - 6)) W := fun W => cutLo8 g 0 8 cap 6 (by omega) hcap W
  have HS := Lib.hid (src_drop hS 6 (by omega) (by omega))
  clear hO hY hK hP5 h8 hE hG hL HB5 HK5 HP5 hS hcap
  have hld : ((Oct.be8 (u : Int)).drop 6).length = 2 := by rw [List.length_drop, hl8]
  clear hl8
  go_wp2_with fail
  have h9 := Oct.one_any vP (some ⟨g, Oct.cutPlace 0 cap 6, none⟩) (cap - 6) w.heap.size ([] ++ [(op : Int)]) ((Oct.be8 (u : Int)).drop 6) w6 HP6.out HS.out (by rw [hld]; simp) HB6.out.size
  rw [hld] at h9
  refine h9.mono ?_
  rintro e w7 ⟨v7, rfl, h7, hG, hL⟩
  have HP7 := Lib.hid h7
  have HB7 := Lib.hid (HB6.out.trans (Below.grown (Below.refl _ _) hG HB6.out.size (fun j hj => (World.ownsRow.lt HP6.out j hj).1)))
  clear h9 h7 hG hL k1 hs1 hld HK6 HP6 HB6 HS
  go_wp2_with fail
  go_ret2
  exact ⟨_, rfl, HP7.out, HB7.out⟩

set_option maxRecDepth 100000 in
set_option maxHeartbeats 8000000 in
theorem parseLine_num8 (s : ByteArray) (op : Nat) (w : World) (hs : s.size < 4294967281) (HM : Hid (MCell w)) (HT : Hid (KTab w)) (h : (opF (lnName s) 18 0).2 = true) (ho : (opF (lnName s) 18 0).1 = (op : Int)) (hop : op < 18) (hF : fol op = 8) (hf : lnHas s = true) (u : Nat) (hu : Lib.parseUintB 64 (lnNum s).data.toList = .ok u) (hu64 : u < 18446744073709551616) (hd : (⟨(Lib.decDigits u).toArray⟩ : ByteArray) = lnNum s) (hl : (lnNum s).size ≤ 9223372036854775806) (HPT : Hid (PTab w)) :
    Calls Tryd.prog 35 #[.string s] w (LnPost w ((op : Int) :: (Oct.be8 (u : Int)).drop 0)) := by
  have HC := Lib.hid (cutS_any s w hs HM)
  have hk := fun (W : World) (h : KTab W) => h op hop
  obtain ⟨N, hN⟩ : ∃ x, lnName s = x := ⟨_, rfl⟩
  rw [hN] at HC h ho
  obtain ⟨D, hD⟩ : ∃ x, lnNum s = x := ⟨_, rfl⟩
  rw [hD, hf] at HC
  clear hN hf
  go_enter Tryd.func35, Tryd.ntmps35
  go_wp2_with fail
  refine HC.out.mono ?_
  rintro e w1 ⟨rfl, hB1⟩
  have HB1 := Lib.hid hB1
  have HT1 := Lib.hid (HT.out.below hB1 HT.out.lt)
  clear hB1 HC
  go_wp2_with fail
  refine (opOf_any N w1 HT1).mono ?_
  rintro e w2 ⟨rfl, hB2⟩
  have HB2 := Lib.hid (HB1.out.trans (hB2.mono HB1.out.size))
  have hT2 := HT1.out.below hB2 HT1.out.lt
  have c0 : w2.cell? ⟨0, op * 4, none⟩ = some (.string (nm op)) := hk w2 hT2 0 _ rfl
  have c1 : w2.cell? ⟨0, op * 4 + 1, none⟩ = some (.int .i64 (fol op : Int)) := hk w2 hT2 1 _ rfl
  have c2 : w2.cell? ⟨0, op * 4 + 2, none⟩ = some (.int .i64 (cst op : Int)) := hk w2 hT2 2 _ rfl
  have c3 : w2.cell? ⟨0, op * 4 + 3, none⟩ = some (.int .i64 (tks op : Int)) := hk w2 hT2 3 _ rfl
  clear hB2 HB1 hT2 hk
  rw [h, ho]
  obtain ⟨C, hC⟩ : ∃ x, cst op = x := ⟨_, rfl⟩
  obtain ⟨T, hT⟩ : ∃ x, tks op = x := ⟨_, rfl⟩
  obtain ⟨M, hM⟩ : ∃ x, nm op = x := ⟨_, rfl⟩
  rw [hM] at c0
  rw [hF] at c1
  rw [hC] at c2
  rw [hT] at c3
  clear hF hC hT hM h ho
  have o0 : (0 : Int) ≤ (op : Int) := Int.natCast_nonneg _
  have o1 : (op : Int) < 18 := by omega
  rw [hD] at hu hd hl
  have HU := Lib.hid hu
  have HD := Lib.hid hd
  have HL := Lib.hid hl
  have HU64 := Lib.hid hu64
  clear hD hop hs hu hd hl hu64
  rw [show ((8 : Nat) : Int) = 8 from rfl] at c1
  go_wp2_with fail
  have hO := outs w2 (.cells #[.string M, .int .i64 8, .int .i64 (C : Int), .int .i64 (T : Int)] 56) w.heap.size HB2.out.size (op : Int)
  have hY : Below w.heap.size w (((w2.alloc (.cells #[.string M, .int .i64 8, .int .i64 (C : Int), .int .i64 (T : Int)] 56)).alloc (.cells #[] 5)).alloc (.cells #[.int .u8 (op : Int)] 5)) := ((HB2.out.alloc HB2.out.size _).alloc (by rw [size_alloc]; have := HB2.out.size; omega) _).alloc (by rw [size_alloc, size_alloc]; have := HB2.out.size; omega) _
  have hK : Blk (((w2.alloc (.cells #[.string M, .int .i64 8, .int .i64 (C : Int), .int .i64 (T : Int)] 56)).alloc (.cells #[] 5)).alloc (.cells #[.int .u8 (op : Int)] 5)) w2.heap.size 56 [.string M, .int .i64 8, .int .i64 (C : Int), .int .i64 (T : Int)] := ((Blk.new w2 56 [.string M, .int .i64 8, .int .i64 (C : Int), .int .i64 (T : Int)]).alloc _).alloc _
  refine (Oct.one_any _ _ 1 w.heap.size [] [(op : Int)] _ hO.1 hO.2 (by simp) hY.size).mono ?_
  rintro e w3 ⟨vP, rfl, hP, hG, hL⟩
  have HP := Lib.hid hP
  have HB3 := Lib.hid (Oct.Laid.above (v' := .nilIface) (l := []) hY hO.1 hG)
  have HK := Lib.hid (hK.grown hG (fun e => Nat.ne_of_lt (Nat.lt_succ_self w2.heap.size) (Option.some.inj e)))
  have k1 : w3.cell? ⟨w2.heap.size, 1, none⟩ = some (.int .i64 8) := HK.out.cell 1
  clear hK
  clear hO hY hP hG hL c0 c1 c2 c3
  have HPT3 : Hid (PTab w3) := Lib.hid (PTab.below HPT.out HB3.out)
  go_wp2_with fail
  refine (Tryd.strconv_ParseUint_10_at64_ok D HL.out u HU.out w3).mono ?_
  rintro e w4 ⟨rfl, hw4⟩
  have hB4 : Below w3.heap.size w3 w4 := by
    rcases hw4 with rfl | rfl
    · exact Below.refl _ _
    · exact Lib.bytesWorld_below _ _ _
  have HB4 := Lib.hid (HB3.out.trans (hB4.mono HB3.out.size))
  have HK4 := Lib.hid (HK.out.below hB4 HK.out.lt)
  have HP4 := Lib.hid (Oct.Own.below HP.out hB4)
  have HPT4 : Hid (PTab w4) := Lib.hid (PTab.below HPT.out HB4.out)
  clear hw4 hB4 HB3 HK HP k1 HPT3
  go_wp2_with fail
  refine (fmt_any u HU64.out w4 HPT4).mono ?_
  rintro e w5 ⟨rfl, hB5⟩
  have HB5 := Lib.hid (HB4.out.trans (hB5.mono HB4.out.size))
  have HK5 := Lib.hid (HK4.out.below hB5 HK4.out.lt)
  have HP5 := Lib.hid (Oct.Own.below HP4.out hB5)
  clear hB5 HB4 HK4 HP4 HPT4
  rw [HD.out]
  go_wp2_with fail
  have hO := outs8 w5 w.heap.size HB5.out.size (u : Int)
  have hY : Below w.heap.size w ((w5.alloc (.cells #[] 5)).alloc (.cells #[.int .u64 (u : Int)] 25)) := (HB5.out.alloc HB5.out.size _).alloc (by rw [size_alloc]; have := HB5.out.size; omega) _
  have hK : Blk ((w5.alloc (.cells #[] 5)).alloc (.cells #[.int .u64 (u : Int)] 25)) w2.heap.size 56 [.string M, .int .i64 8, .int .i64 (C : Int), .int .i64 (T : Int)] := (HK5.out.alloc _).alloc _
  have hP5 : Oct.Own ((w5.alloc (.cells #[] 5)).alloc (.cells #[.int .u64 (u : Int)] 25)) w.heap.size vP ([] ++ [(op : Int)]) := Oct.Own.below (Oct.Own.below HP5.out (up1 _ _)) (up1 _ _)
  have h8 := Oct.eight_any _ _ 1 w.heap.size [] [(u : Int)] _ hO.1 hO.2 (by intro n hn; rw [List.mem_singleton] at hn; subst hn; have := HU64.out; omega) (by simp) hY.size
  refine h8.mono ?_
  rintro e w6 ⟨vE, rfl, hE, hG, hL⟩
  have HB6 := Lib.hid (Oct.Laid.above (v' := .nilIface) (l := []) hY hO.1 hG)
  have HK6 := Lib.hid (hK.grown hG (fun e => Nat.ne_of_lt HK5.out.lt (Option.some.inj e)))
  have HP6 : Hid (Oct.Own w6 w.heap.size vP ([] ++ [(op : Int)])) := Lib.hid (World.ownsRow.kept hP5 hG (by
    cases hv : vP.ownBlock with
    | none => exact .inl rfl
    | some k => exact .inr (fun e => Nat.ne_of_lt (World.ownsRow.lt HP5.out k hv).2 (Option.some.inj e))))
  have k1 : w6.cell? ⟨w2.heap.size, 1, none⟩ = some (.int .i64 8) := HK6.out.cell 1
  rw [List.nil_append, Oct.be8s_one] at hE
  have hl8 : (Oct.be8 (u : Int)).length = 8 := by have := Oct.be8s_length [(u : Int)]; rw [Oct.be8s_one] at this; exact this
  obtain ⟨A, cap, rfl, hS⟩ := Oct.Own.src hE
  rw [hl8] at hE
  obtain ⟨g, rfl⟩ : ∃ g, A = some ⟨g, 0, none⟩ := by
    obtain ⟨A', c', e, h0, _⟩ := own_slice hE
    obtain ⟨g, e2, _⟩ := h0 (by omega)
    injection e with e _ _
    exact ⟨g, e.trans e2⟩
  have hcap : 8 ≤ cap := by
    rcases hE.2 with ⟨e, _⟩ | ⟨g', c', cur, e, _, _, h1, _⟩
    · cases e
    · injection e with _ _ e
      omega
  rw [hl8]
  have hs1 : ∀ W, (Instr.slice 104 (.slice (some ⟨g, 0, none⟩) 8 cap) (some (.int .i64 0)) none none).run Tryd.prog W = .ok (.slice (some ⟨g, Oct.cutPlace 0 cap 0, none⟩) 8 (cap - 0)) W := fun W => cutLo8 g 0 8 cap 0 (by omega) hcap W
  have HS := Lib.hid (src_drop hS 0 (by omega) (by omega))
  clear hO hY hK hP5 h8 hE hG hL HB5 HK5 HP5 hS hcap
  have hld : ((Oct.be8 (u : Int)).drop 0).length = 8 := by rw [List.length_drop, hl8]
  clear hl8
  go_wp2_with fail
  have h9 := Oct.one_any vP (some ⟨g, Oct.cutPlace 0 cap 0, none⟩) (cap - 0) w.heap.size ([] ++ [(op : Int)]) ((Oct.be8 (u : Int)).drop 0) w6 HP6.out HS.out (by rw [hld]; simp) HB6.out.size
  rw [hld] at h9
  refine h9.mono ?_
  rintro e w7 ⟨v7, rfl, h7, hG, hL⟩
  have HP7 := Lib.hid h7
  have HB7 := Lib.hid (HB6.out.trans (Below.grown (Below.refl _ _) hG HB6.out.size (fun j hj => (World.ownsRow.lt HP6.out j hj).1)))
  clear h9 h7 hG hL k1 hs1 hld HK6 HP6 HB6 HS
  go_wp2_with fail
  go_ret2
  exact ⟨_, rfl, HP7.out, HB7.out⟩

end Go.Proofs.YtkilajobnlagbaaDoor
