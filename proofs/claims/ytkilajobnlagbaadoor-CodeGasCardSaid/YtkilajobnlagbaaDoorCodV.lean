/-
  law11.CodeGas 6: its walk.
-/
import Derived.Test.YtkilajobnlagbaaDoorCodT
namespace Go.Proofs.YtkilajobnlagbaaDoor
open Go.RowKit
set_option linter.unusedVariables false

theorem light_yes' {fn pn : Nat} (h : lightB fn pn = true) : fn ≤ 300 ∧ pn ≤ 300 := by simpa [lightB] using h
theorem gas_run (A : Option Addr) (n c : Nat) (l : List Int) (fa : Option Addr) (fn fc : Nat) (pa : Option Addr) (pn pc : Nat) (ht : Int) (fs : List Int) (ps : List Bool) (gas : Int) (x : Int) (y : Nat) (z : Int) (he : runV l fs ps ht gas = (x, y, z)) (w : World) (HP : Hid (Pg w A n c l)) (HT : Hid (KTab w)) (HF : Hid (FRow w fa fn fs)) (HB : Hid (BRow w pa pn ps)) (hh : Word ht) (hfn : fn ≤ 300) (hpn : pn ≤ 300) :
    Calls Tryd.prog 11 #[.slice A n c, wldV fa fn fc pa pn pc ht, .int .i64 gas] w fun e w' => e = .returned (.tuple #[.int .u64 x, .int .i64 (y : Int), .int .i64 z]) ∧ Below w.heap.size w w' := by
  have := run_any A n c l fa fn fc pa pn pc ht fs ps gas w HP HT HF HB hh (by omega) (by omega)
  rw [he] at this
  exact this
theorem tmod_gas (g : Nat) (hg : g < 65536) : Int.tmod (g : Int) 4097 = ((g % 4097 : Nat) : Int) := by
  rw [Int.tmod_eq_emod_of_nonneg (by omega)]
  omega

set_option maxRecDepth 100000 in
set_option maxHeartbeats 4000000 in
theorem gas_dark (A : Option Addr) (n c : Nat) (l : List Int) (fa : Option Addr) (fn fc : Nat) (pa : Option Addr) (pn pc : Nat) (ht : Int) (fs : List Int) (ps : List Bool) (g m : Nat) (W : World) (HM : Hid (MCell W)) (HT : Hid (KTab W)) (HPT : Hid (PTab W)) (HG : Hid (Pg W A n c l)) (HF : Hid (FRow W fa fn fs)) (HP : Hid (BRow W pa pn ps)) (hh : Word ht) (hf : fn ≤ maxLen) (hp : pn ≤ maxLen) (hg : g < 65536) (hm : m < 65536) (hl : lightB fn pn = false) :
    Calls Tryd.prog 6 #[.slice A n c, wldV fa fn fc pa pn pc ht, .int .u16 (g : Int), .int .u16 (m : Int)] W fun e W1 => e = .returned (.bool true) ∧ Below W.heap.size W W1 := by
  have HL := Lib.hid (fun w => light_any fa fn fc pa pn pc ht w hf hp)
  rw [hl] at HL
  unfold wldV at HL ⊢
  go_enter Tryd.func6, Tryd.ntmps6
  go_upto_region 1 with fail
  have B1 : Hid (Below W.heap.size W (W.alloc (.cells #[.slice fa fn fc, .slice pa pn pc, .int .u64 ht] 27))) := Lib.hid (up1 W _)
  have Q1 : Hid (Blk (W.alloc (.cells #[.slice fa fn fc, .slice pa pn pc, .int .u64 ht] 27)) W.heap.size 27 [.slice fa fn fc, .slice pa pn pc, .int .u64 ht]) := Lib.hid (Blk.new W 27 [.slice fa fn fc, .slice pa pn pc, .int .u64 ht])
  generalize W.alloc (.cells #[.slice fa fn fc, .slice pa pn pc, .int .u64 ht] 27) = Y1 at B1 Q1 ⊢
  have c0 := Q1.out.cell 0
  have c1 := Q1.out.cell 1
  have c2 := Q1.out.cell 2
  simp only [List.getElem?_cons_zero, List.getElem?_cons_succ] at c0 c1 c2
  go_wp2_with fail
  clear c0 c1 c2
  refine (HL.out _).mono ?_
  rintro e Y2 ⟨rfl, hB⟩
  have B2 : Hid (Below W.heap.size W Y2) := Lib.hid (B1.out.trans (hB.mono B1.out.size))
  have Q2 : Hid (Blk Y2 W.heap.size 27 [.slice fa fn fc, .slice pa pn pc, .int .u64 ht]) := Lib.hid (Q1.out.below hB Q1.out.lt)
  clear hB B1 Q1
  go_wp2_with fail
  refine (awake_any Y2 (Lib.hid (HM.out.below B2.out)) (Lib.hid (HT.out.keep B2.out)) (Lib.hid (PTab.below HPT.out B2.out))).mono ?_
  rintro e Y3 ⟨rfl, hB⟩
  have B3 : Hid (Below W.heap.size W Y3) := Lib.hid (B2.out.trans (hB.mono B2.out.size))
  have Q3 : Hid (Blk Y3 W.heap.size 27 [.slice fa fn fc, .slice pa pn pc, .int .u64 ht]) := Lib.hid (Q2.out.below hB Q2.out.lt)
  clear hB B2 Q2
  go_wp2
  go_ret
  exact ⟨rfl, B3.out⟩
  
set_option maxRecDepth 100000 in
set_option maxHeartbeats 4000000 in
theorem gas_lack (A : Option Addr) (n c : Nat) (l : List Int) (fa : Option Addr) (fn fc : Nat) (pa : Option Addr) (pn pc : Nat) (ht : Int) (fs : List Int) (ps : List Bool) (g m : Nat) (W : World) (HM : Hid (MCell W)) (HT : Hid (KTab W)) (HPT : Hid (PTab W)) (HG : Hid (Pg W A n c l)) (HF : Hid (FRow W fa fn fs)) (HP : Hid (BRow W pa pn ps)) (hh : Word ht) (hf : fn ≤ maxLen) (hp : pn ≤ maxLen) (hg : g < 65536) (hm : m < 65536) (hl : lightB fn pn = true) (a b : Nat) (ha : g % 4097 = a) (hb : (if a + m ≤ 4096 then a + m else 4096) = b) (x y : Int) (u1 u2 : Nat) (e1 e2 : Int) (he1 : runV l fs ps ht (a : Int) = (x, u1, e1)) (he2 : runV l fs ps ht (b : Int) = (y, u2, e2)) (hc1 : u1 ≤ a) (hc2 : u2 ≤ b) (hc3 : u1 ≤ u2) (he : e1 = 24) :
    Calls Tryd.prog 6 #[.slice A n c, wldV fa fn fc pa pn pc ht, .int .u16 (g : Int), .int .u16 (m : Int)] W fun e W1 => e = .returned (.bool true) ∧ Below W.heap.size W W1 := by
  have HL := Lib.hid (fun w => light_any fa fn fc pa pn pc ht w hf hp)
  rw [hl] at HL
  obtain ⟨hf3, hp3⟩ := light_yes' hl
  have HF3 := Lib.hid hf3
  have HP3 := Lib.hid hp3
  have HHH := Lib.hid hh
  have HTO := Lib.hid (fun w hF hP => to_any fa fn fc pa pn pc ht fs ps w hF hP hf3 hp3)
  have HE1 := Lib.hid he1
  have HE2 := Lib.hid he2
  have q0 : Int.tmod (g : Int) 4097 = (a : Int) := by rw [tmod_gas g hg, ha]
  have a0 : (a : Int) ≤ 4096 := by have := Nat.mod_lt g (show 0 < 4097 by decide); omega
  have a1 : (0 : Int) ≤ (a : Int) := Int.natCast_nonneg _
  have g0 : (0 : Int) ≤ (g : Int) := Int.natCast_nonneg _
  have g1 : (g : Int) < 65536 := by omega
  have m0 : (0 : Int) ≤ (m : Int) := Int.natCast_nonneg _
  have m1 : (m : Int) < 65536 := by omega
  have HMIN : Hid (min ((a : Int) + (m : Int)) 4096 = (b : Int)) := Lib.hid (by rw [← hb]; split <;> omega)
  have d1 : ¬ ((a : Int) < (u1 : Int)) := by omega
  have d2 : ¬ ((b : Int) < (u2 : Int)) := by omega
  have d3 : ¬ ((u2 : Int) < (u1 : Int)) := by omega
  clear hl hf hp hf3 hp3 hh hg hm ha hb he1 he2 hc1 hc2 hc3
  subst he
  unfold wldV at HL HTO ⊢
  go_enter Tryd.func6, Tryd.ntmps6
  go_upto_region 1 with fail
  have B1 : Hid (Below W.heap.size W (W.alloc (.cells #[.slice fa fn fc, .slice pa pn pc, .int .u64 ht] 27))) := Lib.hid (up1 W _)
  have Q1 : Hid (Blk (W.alloc (.cells #[.slice fa fn fc, .slice pa pn pc, .int .u64 ht] 27)) W.heap.size 27 [.slice fa fn fc, .slice pa pn pc, .int .u64 ht]) := Lib.hid (Blk.new W 27 [.slice fa fn fc, .slice pa pn pc, .int .u64 ht])
  generalize W.alloc (.cells #[.slice fa fn fc, .slice pa pn pc, .int .u64 ht] 27) = Y1 at B1 Q1 ⊢
  have c0 := Q1.out.cell 0
  have c1 := Q1.out.cell 1
  have c2 := Q1.out.cell 2
  simp only [List.getElem?_cons_zero, List.getElem?_cons_succ] at c0 c1 c2
  go_wp2_with fail
  clear c0 c1 c2
  refine (HL.out _).mono ?_
  rintro e Y2 ⟨rfl, hB⟩
  have B2 : Hid (Below W.heap.size W Y2) := Lib.hid (B1.out.trans (hB.mono B1.out.size))
  have Q2 : Hid (Blk Y2 W.heap.size 27 [.slice fa fn fc, .slice pa pn pc, .int .u64 ht]) := Lib.hid (Q1.out.below hB Q1.out.lt)
  clear hB B1 Q1
  have c0 := Q2.out.cell 0
  have c1 := Q2.out.cell 1
  have c2 := Q2.out.cell 2
  simp only [List.getElem?_cons_zero, List.getElem?_cons_succ] at c0 c1 c2
  go_wp2_with fail
  rw [HMIN.out]
  clear c0 c1 c2
  refine (HTO.out Y2 (Lib.hid (HF.out.below (B := 0) B2.out)) (Lib.hid (HP.out.below B2.out))).mono ?_
  rintro e Y3 ⟨fa2, fc2, pa2, pc2, rfl, hF, hP, hB⟩
  have F3 := Lib.hid hF
  have P3 := Lib.hid hP
  clear hF hP
  have B3 : Hid (Below W.heap.size W Y3) := Lib.hid (B2.out.trans (hB.mono B2.out.size))
  have Q3 : Hid (Blk Y3 W.heap.size 27 [.slice fa fn fc, .slice pa pn pc, .int .u64 ht]) := Lib.hid (Q2.out.below hB Q2.out.lt)
  clear hB B2 Q2
  go_wp2_with fail
  refine (gas_run A n c l fa2 fn fc2 pa2 pn pc2 ht fs ps (a : Nat) _ _ _ HE1.out Y3 (Lib.hid (HG.out.below B3.out)) (Lib.hid (HT.out.keep B3.out)) F3 P3 HHH.out HF3.out HP3.out).mono ?_
  rintro e Y4 ⟨rfl, hB⟩
  have B4 : Hid (Below W.heap.size W Y4) := Lib.hid (B3.out.trans (hB.mono B3.out.size))
  have Q4 : Hid (Blk Y4 W.heap.size 27 [.slice fa fn fc, .slice pa pn pc, .int .u64 ht]) := Lib.hid (Q3.out.below hB Q3.out.lt)
  clear hB B3 Q3 F3 P3
  have c0 := Q4.out.cell 0
  have c1 := Q4.out.cell 1
  have c2 := Q4.out.cell 2
  simp only [List.getElem?_cons_zero, List.getElem?_cons_succ] at c0 c1 c2
  go_wp2_with fail
  clear c0 c1 c2
  refine (HTO.out Y4 (Lib.hid (HF.out.below (B := 0) B4.out)) (Lib.hid (HP.out.below B4.out))).mono ?_
  rintro e Y5 ⟨fa4, fc4, pa4, pc4, rfl, hF, hP, hB⟩
  have F5 := Lib.hid hF
  have P5 := Lib.hid hP
  clear hF hP
  have B5 : Hid (Below W.heap.size W Y5) := Lib.hid (B4.out.trans (hB.mono B4.out.size))
  have Q5 : Hid (Blk Y5 W.heap.size 27 [.slice fa fn fc, .slice pa pn pc, .int .u64 ht]) := Lib.hid (Q4.out.below hB Q4.out.lt)
  clear hB B4 Q4
  go_wp2_with fail
  refine (gas_run A n c l fa4 fn fc4 pa4 pn pc4 ht fs ps (b : Nat) _ _ _ HE2.out Y5 (Lib.hid (HG.out.below B5.out)) (Lib.hid (HT.out.keep B5.out)) F5 P5 HHH.out HF3.out HP3.out).mono ?_
  rintro e Y6 ⟨rfl, hB⟩
  have B6 : Hid (Below W.heap.size W Y6) := Lib.hid (B5.out.trans (hB.mono B5.out.size))
  have Q6 : Hid (Blk Y6 W.heap.size 27 [.slice fa fn fc, .slice pa pn pc, .int .u64 ht]) := Lib.hid (Q5.out.below hB Q5.out.lt)
  clear hB B5 Q5 F5 P5
  clear q0 g0 g1 m0 m1 a0 a1
  have N1 : u1 ≤ a := by omega
  have N2 : u2 ≤ b := by omega
  have M1 : (a < u1) = False := eq_false (by omega)
  have M2 : (b < u2) = False := eq_false (by omega)
  have M3 : (u2 < u1) = False := eq_false (by omega)
  clear d1 d2 d3
  go_wp2_with fail
  refine (awake_any Y6 (Lib.hid (HM.out.below B6.out)) (Lib.hid (HT.out.keep B6.out)) (Lib.hid (PTab.below HPT.out B6.out))).mono ?_
  rintro e Y7 ⟨rfl, hB⟩
  have B7 : Hid (Below W.heap.size W Y7) := Lib.hid (B6.out.trans (hB.mono B6.out.size))
  have Q7 : Hid (Blk Y7 W.heap.size 27 [.slice fa fn fc, .slice pa pn pc, .int .u64 ht]) := Lib.hid (Q6.out.below hB Q6.out.lt)
  clear hB B6 Q6
  go_wp2
  go_ret
  exact ⟨rfl, B7.out⟩
  
set_option maxRecDepth 100000 in
set_option maxHeartbeats 4000000 in
theorem gas_same (A : Option Addr) (n c : Nat) (l : List Int) (fa : Option Addr) (fn fc : Nat) (pa : Option Addr) (pn pc : Nat) (ht : Int) (fs : List Int) (ps : List Bool) (g m : Nat) (W : World) (HM : Hid (MCell W)) (HT : Hid (KTab W)) (HPT : Hid (PTab W)) (HG : Hid (Pg W A n c l)) (HF : Hid (FRow W fa fn fs)) (HP : Hid (BRow W pa pn ps)) (hh : Word ht) (hf : fn ≤ maxLen) (hp : pn ≤ maxLen) (hg : g < 65536) (hm : m < 65536) (hl : lightB fn pn = true) (a b : Nat) (ha : g % 4097 = a) (hb : (if a + m ≤ 4096 then a + m else 4096) = b) (x y : Int) (u1 u2 : Nat) (e1 e2 : Int) (he1 : runV l fs ps ht (a : Int) = (x, u1, e1)) (he2 : runV l fs ps ht (b : Int) = (y, u2, e2)) (hc1 : u1 ≤ a) (hc2 : u2 ≤ b) (hc3 : u1 ≤ u2) (he : e1 ≠ 24) (h1 : x = y) (h2 : u1 = u2) (h3 : e1 = e2) :
    Calls Tryd.prog 6 #[.slice A n c, wldV fa fn fc pa pn pc ht, .int .u16 (g : Int), .int .u16 (m : Int)] W fun e W1 => e = .returned (.bool true) ∧ Below W.heap.size W W1 := by
  have HL := Lib.hid (fun w => light_any fa fn fc pa pn pc ht w hf hp)
  rw [hl] at HL
  obtain ⟨hf3, hp3⟩ := light_yes' hl
  have HF3 := Lib.hid hf3
  have HP3 := Lib.hid hp3
  have HHH := Lib.hid hh
  have HTO := Lib.hid (fun w hF hP => to_any fa fn fc pa pn pc ht fs ps w hF hP hf3 hp3)
  have HE1 := Lib.hid he1
  have HE2 := Lib.hid he2
  have q0 : Int.tmod (g : Int) 4097 = (a : Int) := by rw [tmod_gas g hg, ha]
  have a0 : (a : Int) ≤ 4096 := by have := Nat.mod_lt g (show 0 < 4097 by decide); omega
  have a1 : (0 : Int) ≤ (a : Int) := Int.natCast_nonneg _
  have g0 : (0 : Int) ≤ (g : Int) := Int.natCast_nonneg _
  have g1 : (g : Int) < 65536 := by omega
  have m0 : (0 : Int) ≤ (m : Int) := Int.natCast_nonneg _
  have m1 : (m : Int) < 65536 := by omega
  have HMIN : Hid (min ((a : Int) + (m : Int)) 4096 = (b : Int)) := Lib.hid (by rw [← hb]; split <;> omega)
  have d1 : ¬ ((a : Int) < (u1 : Int)) := by omega
  have d2 : ¬ ((b : Int) < (u2 : Int)) := by omega
  have d3 : ¬ ((u2 : Int) < (u1 : Int)) := by omega
  clear hl hf hp hf3 hp3 hh hg hm ha hb he1 he2 hc1 hc2 hc3
  subst h1 h2 h3
  unfold wldV at HL HTO ⊢
  go_enter Tryd.func6, Tryd.ntmps6
  go_upto_region 1 with fail
  have B1 : Hid (Below W.heap.size W (W.alloc (.cells #[.slice fa fn fc, .slice pa pn pc, .int .u64 ht] 27))) := Lib.hid (up1 W _)
  have Q1 : Hid (Blk (W.alloc (.cells #[.slice fa fn fc, .slice pa pn pc, .int .u64 ht] 27)) W.heap.size 27 [.slice fa fn fc, .slice pa pn pc, .int .u64 ht]) := Lib.hid (Blk.new W 27 [.slice fa fn fc, .slice pa pn pc, .int .u64 ht])
  generalize W.alloc (.cells #[.slice fa fn fc, .slice pa pn pc, .int .u64 ht] 27) = Y1 at B1 Q1 ⊢
  have c0 := Q1.out.cell 0
  have c1 := Q1.out.cell 1
  have c2 := Q1.out.cell 2
  simp only [List.getElem?_cons_zero, List.getElem?_cons_succ] at c0 c1 c2
  go_wp2_with fail
  clear c0 c1 c2
  refine (HL.out _).mono ?_
  rintro e Y2 ⟨rfl, hB⟩
  have B2 : Hid (Below W.heap.size W Y2) := Lib.hid (B1.out.trans (hB.mono B1.out.size))
  have Q2 : Hid (Blk Y2 W.heap.size 27 [.slice fa fn fc, .slice pa pn pc, .int .u64 ht]) := Lib.hid (Q1.out.below hB Q1.out.lt)
  clear hB B1 Q1
  have c0 := Q2.out.cell 0
  have c1 := Q2.out.cell 1
  have c2 := Q2.out.cell 2
  simp only [List.getElem?_cons_zero, List.getElem?_cons_succ] at c0 c1 c2
  go_wp2_with fail
  rw [HMIN.out]
  clear c0 c1 c2
  refine (HTO.out Y2 (Lib.hid (HF.out.below (B := 0) B2.out)) (Lib.hid (HP.out.below B2.out))).mono ?_
  rintro e Y3 ⟨fa2, fc2, pa2, pc2, rfl, hF, hP, hB⟩
  have F3 := Lib.hid hF
  have P3 := Lib.hid hP
  clear hF hP
  have B3 : Hid (Below W.heap.size W Y3) := Lib.hid (B2.out.trans (hB.mono B2.out.size))
  have Q3 : Hid (Blk Y3 W.heap.size 27 [.slice fa fn fc, .slice pa pn pc, .int .u64 ht]) := Lib.hid (Q2.out.below hB Q2.out.lt)
  clear hB B2 Q2
  go_wp2_with fail
  refine (gas_run A n c l fa2 fn fc2 pa2 pn pc2 ht fs ps (a : Nat) _ _ _ HE1.out Y3 (Lib.hid (HG.out.below B3.out)) (Lib.hid (HT.out.keep B3.out)) F3 P3 HHH.out HF3.out HP3.out).mono ?_
  rintro e Y4 ⟨rfl, hB⟩
  have B4 : Hid (Below W.heap.size W Y4) := Lib.hid (B3.out.trans (hB.mono B3.out.size))
  have Q4 : Hid (Blk Y4 W.heap.size 27 [.slice fa fn fc, .slice pa pn pc, .int .u64 ht]) := Lib.hid (Q3.out.below hB Q3.out.lt)
  clear hB B3 Q3 F3 P3
  have c0 := Q4.out.cell 0
  have c1 := Q4.out.cell 1
  have c2 := Q4.out.cell 2
  simp only [List.getElem?_cons_zero, List.getElem?_cons_succ] at c0 c1 c2
  go_wp2_with fail
  clear c0 c1 c2
  refine (HTO.out Y4 (Lib.hid (HF.out.below (B := 0) B4.out)) (Lib.hid (HP.out.below B4.out))).mono ?_
  rintro e Y5 ⟨fa4, fc4, pa4, pc4, rfl, hF, hP, hB⟩
  have F5 := Lib.hid hF
  have P5 := Lib.hid hP
  clear hF hP
  have B5 : Hid (Below W.heap.size W Y5) := Lib.hid (B4.out.trans (hB.mono B4.out.size))
  have Q5 : Hid (Blk Y5 W.heap.size 27 [.slice fa fn fc, .slice pa pn pc, .int .u64 ht]) := Lib.hid (Q4.out.below hB Q4.out.lt)
  clear hB B4 Q4
  go_wp2_with fail
  refine (gas_run A n c l fa4 fn fc4 pa4 pn pc4 ht fs ps (b : Nat) _ _ _ HE2.out Y5 (Lib.hid (HG.out.below B5.out)) (Lib.hid (HT.out.keep B5.out)) F5 P5 HHH.out HF3.out HP3.out).mono ?_
  rintro e Y6 ⟨rfl, hB⟩
  have B6 : Hid (Below W.heap.size W Y6) := Lib.hid (B5.out.trans (hB.mono B5.out.size))
  have Q6 : Hid (Blk Y6 W.heap.size 27 [.slice fa fn fc, .slice pa pn pc, .int .u64 ht]) := Lib.hid (Q5.out.below hB Q5.out.lt)
  clear hB B5 Q5 F5 P5
  clear q0 g0 g1 m0 m1 a0 a1
  have N1 : u1 ≤ a := by omega
  have N2 : u1 ≤ b := by omega
  have M1 : (a < u1) = False := eq_false (by omega)
  have M2 : (b < u1) = False := eq_false (by omega)
  have M3 : (u1 < u1) = False := eq_false (by omega)
  clear d1 d2 d3
  go_wp2_with fail
  refine (awake_any Y6 (Lib.hid (HM.out.below B6.out)) (Lib.hid (HT.out.keep B6.out)) (Lib.hid (PTab.below HPT.out B6.out))).mono ?_
  rintro e Y7 ⟨rfl, hB⟩
  have B7 : Hid (Below W.heap.size W Y7) := Lib.hid (B6.out.trans (hB.mono B6.out.size))
  have Q7 : Hid (Blk Y7 W.heap.size 27 [.slice fa fn fc, .slice pa pn pc, .int .u64 ht]) := Lib.hid (Q6.out.below hB Q6.out.lt)
  clear hB B6 Q6
  go_wp2
  go_ret
  exact ⟨rfl, B7.out⟩
  
theorem codeGas_walk (A : Option Addr) (n c : Nat) (l : List Int) (fa : Option Addr) (fn fc : Nat) (pa : Option Addr) (pn pc : Nat) (ht : Int) (fs : List Int) (ps : List Bool) (g m : Nat) (W : World) (HM : Hid (MCell W)) (HT : Hid (KTab W)) (HPT : Hid (PTab W)) (HG : Hid (Pg W A n c l)) (HF : Hid (FRow W fa fn fs)) (HP : Hid (BRow W pa pn ps)) (hh : Word ht) (hf : fn ≤ maxLen) (hp : pn ≤ maxLen) (hg : g < 65536) (hm : m < 65536) :
    Calls Tryd.prog 6 #[.slice A n c, wldV fa fn fc pa pn pc ht, .int .u16 (g : Int), .int .u16 (m : Int)] W fun e W1 => e = .returned (.bool true) ∧ Below W.heap.size W W1 := by
  cases hl : lightB fn pn with
  | false => exact gas_dark A n c l fa fn fc pa pn pc ht fs ps g m W HM HT HPT HG HF HP hh hf hp hg hm hl
  | true =>
    obtain ⟨a, ha⟩ : ∃ a, g % 4097 = a := ⟨_, rfl⟩
    obtain ⟨b, hb⟩ : ∃ b, (if a + m ≤ 4096 then a + m else 4096) = b := ⟨_, rfl⟩
    have ha2 : a ≤ 4096 := by have := Nat.mod_lt g (show 0 < 4097 by decide); omega
    have hab : a ≤ b := by rw [← hb]; split <;> omega
    have hb2 : b ≤ 4096 := by rw [← hb]; split <;> omega
    obtain ⟨h1, h2, h3, h4⟩ := runV_more l fs ps ht a b hab hb2
    obtain ⟨x, c1, e1, he1⟩ : ∃ x c1 e1, runV l fs ps ht (a : Int) = (x, c1, e1) := ⟨_, _, _, rfl⟩
    obtain ⟨y, c2, e2, he2⟩ : ∃ x c1 e1, runV l fs ps ht (b : Int) = (x, c1, e1) := ⟨_, _, _, rfl⟩
    rw [he1, he2] at h3 h4
    rw [he1] at h1
    rw [he2] at h2
    by_cases he : e1 = 24
    · exact gas_lack A n c l fa fn fc pa pn pc ht fs ps g m W HM HT HPT HG HF HP hh hf hp hg hm hl a b ha hb x y c1 c2 e1 e2 he1 he2 h1 h2 h3 he
    · rcases h4 with h4 | h4
      · exact absurd h4 he
      · injection h4 with k1 k2
        injection k2 with k2 k3
        exact gas_same A n c l fa fn fc pa pn pc ht fs ps g m W HM HT HPT HG HF HP hh hf hp hg hm hl a b ha hb x y c1 c2 e1 e2 he1 he2 h1 h2 h3 he k1 k2 k3
end Go.Proofs.YtkilajobnlagbaaDoor
