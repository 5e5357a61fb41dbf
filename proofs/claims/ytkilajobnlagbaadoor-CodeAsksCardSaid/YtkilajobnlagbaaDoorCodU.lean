/-
  law11.CodeAsks 7: its walk.
-/
import Derived.Test.YtkilajobnlagbaaDoorCodT
namespace Go.Proofs.YtkilajobnlagbaaDoor
open Go.RowKit
set_option linter.unusedVariables false

theorem ret_fold (x : Int) (y : Nat) (z : Int) : retV (x, y, z) = .tuple #[.int .u64 x, .int .i64 (y : Int), .int .i64 z] := rfl
theorem pg_two (w : World) (x y : Int) (hx : 0 ≤ x ∧ x < 256) (hy : 0 ≤ y ∧ y < 256) : Pg (w.alloc (.cells #[.int .u8 x, .int .u8 y] 5)) (some ⟨w.heap.size, 0, none⟩) 2 2 [x, y] :=
  ⟨rfl, Nat.le_refl _, by decide, by intro b hb; simp at hb; rcases hb with rfl | rfl <;> assumption, Oct.Src.lit w _ [x, y] rfl⟩
/-- What a run of three bytes, two bytes, comes to, in a world that came of 'to'. -/
theorem ask_load (i : Nat) (hi : i < 256) (b : Nat) (fa : Option Addr) (fn fc : Nat) (pa : Option Addr) (pn pc : Nat) (ht : Int) (fs : List Int) (ps : List Bool) (w : World) (HP : Hid (Pg w (some ⟨b, 0, none⟩) 3 3 [2, (i : Int), 0])) (HT : Hid (KTab w)) (HF : Hid (FRow w fa fn fs)) (HB : Hid (BRow w pa pn ps)) (hh : Word ht) (hfn : fn ≤ 300) (hpn : pn ≤ 300) :
    Calls Tryd.prog 11 #[.slice (some ⟨b, 0, none⟩) 3 3, wldV fa fn fc pa pn pc ht, .int .i64 100] w fun e w' => e = .returned (retV (if fs.length ≤ i then (0, 1, 1) else (fs.getD i 0, 2, 0))) ∧ Below w.heap.size w w' := by
  have := run_any (some ⟨b, 0, none⟩) 3 3 [2, (i : Int), 0] fa fn fc pa pn pc ht fs ps 100 w HP HT HF HB hh (by omega) (by omega)
  rw [runV_load i hi] at this
  exact this
theorem ask_paid (i : Nat) (hi : i < 256) (b : Nat) (fa : Option Addr) (fn fc : Nat) (pa : Option Addr) (pn pc : Nat) (ht : Int) (fs : List Int) (ps : List Bool) (w : World) (HP : Hid (Pg w (some ⟨b, 0, none⟩) 3 3 [16, (i : Int), 0])) (HT : Hid (KTab w)) (HF : Hid (FRow w fa fn fs)) (HB : Hid (BRow w pa pn ps)) (hh : Word ht) (hfn : fn ≤ 300) (hpn : pn ≤ 300) :
    Calls Tryd.prog 11 #[.slice (some ⟨b, 0, none⟩) 3 3, wldV fa fn fc pa pn pc ht, .int .i64 100] w fun e w' => e = .returned (retV (if ps.length ≤ i then (0, 10, 1) else (one01 (ps.getD i false), 11, 0))) ∧ Below w.heap.size w w' := by
  have := run_any (some ⟨b, 0, none⟩) 3 3 [16, (i : Int), 0] fa fn fc pa pn pc ht fs ps 100 w HP HT HF HB hh (by omega) (by omega)
  rw [runV_paid i hi] at this
  exact this
theorem ask_now (b : Nat) (fa : Option Addr) (fn fc : Nat) (pa : Option Addr) (pn pc : Nat) (ht : Int) (fs : List Int) (ps : List Bool) (w : World) (HP : Hid (Pg w (some ⟨b, 0, none⟩) 2 2 [17, 0])) (HT : Hid (KTab w)) (HF : Hid (FRow w fa fn fs)) (HB : Hid (BRow w pa pn ps)) (hh : Word ht) (hfn : fn ≤ 300) (hpn : pn ≤ 300) :
    Calls Tryd.prog 11 #[.slice (some ⟨b, 0, none⟩) 2 2, wldV fa fn fc pa pn pc ht, .int .i64 2] w fun e w' => e = .returned (retV (ht, 2, 0)) ∧ Below w.heap.size w w' := by
  have := run_any (some ⟨b, 0, none⟩) 2 2 [17, 0] fa fn fc pa pn pc ht fs ps 2 w HP HT HF HB hh (by omega) (by omega)
  rw [runV_now] at this
  exact this
theorem light_yes {fn pn : Nat} (h : lightB fn pn = true) : fn ≤ 300 ∧ pn ≤ 300 := by simpa [lightB] using h

set_option maxRecDepth 100000 in
set_option maxHeartbeats 4000000 in
theorem asks_dark (fa : Option Addr) (fn fc : Nat) (pa : Option Addr) (pn pc : Nat) (ht : Int) (fs : List Int) (ps : List Bool) (i : Nat) (W : World) (HM : Hid (MCell W)) (HT : Hid (KTab W)) (HPT : Hid (PTab W)) (HF : Hid (FRow W fa fn fs)) (HP : Hid (BRow W pa pn ps)) (hh : Word ht) (hf : fn ≤ maxLen) (hp : pn ≤ maxLen) (hi : i < 256) (hl : lightB fn pn = false) :
    Calls Tryd.prog 7 #[wldV fa fn fc pa pn pc ht, .int .u8 (i : Int)] W fun e W1 => e = .returned (.bool true) ∧ Below W.heap.size W W1 := by
  have HL := Lib.hid (fun w => light_any fa fn fc pa pn pc ht w hf hp)
  rw [hl] at HL
  unfold wldV at HL ⊢
  go_enter Tryd.func7, Tryd.ntmps7
  go_upto_region 1 with fail
  have B1 : Hid (Below W.heap.size W (W.alloc (.cells #[.slice fa fn fc, .slice pa pn pc, .int .u64 ht] 27))) := Lib.hid (up1 W _)
  have Q1 : Hid (Blk (W.alloc (.cells #[.slice fa fn fc, .slice pa pn pc, .int .u64 ht] 27)) W.heap.size 27 [.slice fa fn fc, .slice pa pn pc, .int .u64 ht]) := Lib.hid (Blk.new W 27 [.slice fa fn fc, .slice pa pn pc, .int .u64 ht])
  generalize W.alloc (.cells #[.slice fa fn fc, .slice pa pn pc, .int .u64 ht] 27) = Y1 at B1 Q1 ⊢
  have c0 := Q1.out.cell 0
  have c1 := Q1.out.cell 1
  have c2 := Q1.out.cell 2
  simp only [List.getElem?_cons_zero, List.getElem?_cons_succ] at c0 c1 c2
  go_wp2_with fail
  clear c0 c1 c2
  refine (HL.out _).mono ?_
  rintro e Y2 ⟨rfl, hB⟩
  have B2 : Hid (Below W.heap.size W Y2) := Lib.hid (B1.out.trans (hB.mono B1.out.size))
  have Q2 : Hid (Blk Y2 W.heap.size 27 [.slice fa fn fc, .slice pa pn pc, .int .u64 ht]) := Lib.hid (Q1.out.below hB Q1.out.lt)
  clear hB B1 Q1
  go_wp2_with fail
  refine (awake_any Y2 (Lib.hid (HM.out.below B2.out)) (Lib.hid (HT.out.keep B2.out)) (Lib.hid (PTab.below HPT.out B2.out))).mono ?_
  rintro e Y3 ⟨rfl, hB⟩
  have B3 : Hid (Below W.heap.size W Y3) := Lib.hid (B2.out.trans (hB.mono B2.out.size))
  have Q3 : Hid (Blk Y3 W.heap.size 27 [.slice fa fn fc, .slice pa pn pc, .int .u64 ht]) := Lib.hid (Q2.out.below hB Q2.out.lt)
  clear hB B2 Q2
  go_wp2
  go_ret
  exact ⟨rfl, B3.out⟩
  
set_option maxRecDepth 100000 in
set_option maxHeartbeats 4000000 in
theorem asks_yn (fa : Option Addr) (fn fc : Nat) (pa : Option Addr) (pn pc : Nat) (ht : Int) (fs : List Int) (ps : List Bool) (i : Nat) (W : World) (HM : Hid (MCell W)) (HT : Hid (KTab W)) (HPT : Hid (PTab W)) (HF : Hid (FRow W fa fn fs)) (HP : Hid (BRow W pa pn ps)) (hh : Word ht) (hf : fn ≤ maxLen) (hp : pn ≤ maxLen) (hi : i < 256) (hl : lightB fn pn = true) (h1 : i < fn) (h2 : pn ≤ i) :
    Calls Tryd.prog 7 #[wldV fa fn fc pa pn pc ht, .int .u8 (i : Int)] W fun e W1 => e = .returned (.bool true) ∧ Below W.heap.size W W1 := by
  have HL := Lib.hid (fun w => light_any fa fn fc pa pn pc ht w hf hp)
  rw [hl] at HL
  obtain ⟨hf3, hp3⟩ := light_yes hl
  have HF3 := Lib.hid hf3
  have HP3 := Lib.hid hp3
  have HHI := Lib.hid hi
  have HHH := Lib.hid hh
  have i0 : (0 : Int) ≤ (i : Int) := Int.natCast_nonneg _
  have i1 : (i : Int) < 256 := by omega
  have HI : Hid ((0 : Int) ≤ (i : Int) ∧ (i : Int) < 256) := Lib.hid ⟨i0, i1⟩
  have HTO := Lib.hid (fun w hF hP => to_any fa fn fc pa pn pc ht fs ps w hF hP hf3 hp3)
  have d1 : (i : Int) < (fn : Int) := by omega
  have d2 : ¬ ((i : Int) < (pn : Int)) := by omega
  have hfl := HF.out.len
  have hpl := HP.out.len
  obtain ⟨x, hx⟩ : ∃ x, fs.getD i 0 = x := ⟨_, rfl⟩
  have HE1 : Hid ((if fs.length ≤ i then ((0 : Int), 1, (1 : Int)) else (fs.getD i 0, 2, 0)) = (x, 2, 0)) := Lib.hid (by rw [if_neg (by omega), hx])
  have HE2 : Hid ((if ps.length ≤ i then ((0 : Int), 10, (1 : Int)) else (one01 (ps.getD i false), 11, 0)) = (0, 10, 1)) := Lib.hid (by rw [if_pos (by omega)])
  obtain ⟨bf, off, hfa, hbf, hcf⟩ := HF.out.at_ i (by omega)
  subst hfa
  have HCF := Lib.hid hcf
  have HBF := Lib.hid hbf
  rw [hx] at HCF
  clear hcf hbf
  clear hx hl hf hp h1 h2 hfl hpl hf3 hp3 hi hh
  unfold wldV at HL HTO ⊢
  go_enter Tryd.func7, Tryd.ntmps7
  go_upto_region 1 with fail
  have B1 : Hid (Below W.heap.size W (W.alloc (.cells #[.slice (some ⟨bf, off, none⟩) fn fc, .slice pa pn pc, .int .u64 ht] 27))) := Lib.hid (up1 W _)
  have Q1 : Hid (Blk (W.alloc (.cells #[.slice (some ⟨bf, off, none⟩) fn fc, .slice pa pn pc, .int .u64 ht] 27)) W.heap.size 27 [.slice (some ⟨bf, off, none⟩) fn fc, .slice pa pn pc, .int .u64 ht]) := Lib.hid (Blk.new W 27 [.slice (some ⟨bf, off, none⟩) fn fc, .slice pa pn pc, .int .u64 ht])
  generalize W.alloc (.cells #[.slice (some ⟨bf, off, none⟩) fn fc, .slice pa pn pc, .int .u64 ht] 27) = Y1 at B1 Q1 ⊢
  have c0 := Q1.out.cell 0
  have c1 := Q1.out.cell 1
  have c2 := Q1.out.cell 2
  simp only [List.getElem?_cons_zero, List.getElem?_cons_succ] at c0 c1 c2
  go_wp2_with fail
  clear c0 c1 c2
  refine (HL.out _).mono ?_
  rintro e Y2 ⟨rfl, hB⟩
  have B2 : Hid (Below W.heap.size W Y2) := Lib.hid (B1.out.trans (hB.mono B1.out.size))
  have Q2 : Hid (Blk Y2 W.heap.size 27 [.slice (some ⟨bf, off, none⟩) fn fc, .slice pa pn pc, .int .u64 ht]) := Lib.hid (Q1.out.below hB Q1.out.lt)
  clear hB B1 Q1
  have c0 := Q2.out.cell 0
  have c1 := Q2.out.cell 1
  have c2 := Q2.out.cell 2
  simp only [List.getElem?_cons_zero, List.getElem?_cons_succ] at c0 c1 c2
  have e0 : ∀ ob, (Y2.alloc ob).cell? ⟨W.heap.size, 0, none⟩ = some (.slice (some ⟨bf, off, none⟩) fn fc) := fun ob => by rw [World.cell?_alloc_lt _ _ _ Q2.out.lt]; exact c0
  have e1 : ∀ ob, (Y2.alloc ob).cell? ⟨W.heap.size, 1, none⟩ = some (.slice pa pn pc) := fun ob => by rw [World.cell?_alloc_lt _ _ _ Q2.out.lt]; exact c1
  have e2 : ∀ ob, (Y2.alloc ob).cell? ⟨W.heap.size, 2, none⟩ = some (.int .u64 ht) := fun ob => by rw [World.cell?_alloc_lt _ _ _ Q2.out.lt]; exact c2
  go_wp2_with fail
  clear c0 c1 c2
  clear e0 e1 e2
  have hB : Below Y2.heap.size Y2 (Y2.alloc (.cells #[.int .u8 2, .int .u8 (i : Int), .int .u8 0] 5)) := up1 Y2 _
  have B3 : Hid (Below W.heap.size W (Y2.alloc (.cells #[.int .u8 2, .int .u8 (i : Int), .int .u8 0] 5))) := Lib.hid (B2.out.trans (hB.mono B2.out.size))
  have Q3 : Hid (Blk (Y2.alloc (.cells #[.int .u8 2, .int .u8 (i : Int), .int .u8 0] 5)) W.heap.size 27 [.slice (some ⟨bf, off, none⟩) fn fc, .slice pa pn pc, .int .u64 ht]) := Lib.hid (Q2.out.below hB Q2.out.lt)
  clear hB B2 Q2
  have G3 : Hid (Pg (Y2.alloc (.cells #[.int .u8 2, .int .u8 (i : Int), .int .u8 0] 5)) (some ⟨Y2.heap.size, 0, none⟩) 3 3 [2, (i : Int), 0]) := Lib.hid (pg_lit3 Y2 2 (i : Int) 0 ⟨by decide, by decide⟩ HI.out ⟨by decide, by decide⟩)
  generalize (Y2.alloc (.cells #[.int .u8 2, .int .u8 (i : Int), .int .u8 0] 5)) = Y3 at B3 Q3 G3 ⊢
  generalize Y2.heap.size = g2 at G3 ⊢
  refine (HTO.out Y3 (Lib.hid (HF.out.below (B := 0) B3.out)) (Lib.hid (HP.out.below B3.out))).mono ?_
  rintro e Y4 ⟨fa2, fc2, pa2, pc2, rfl, hF, hP, hB⟩
  have F4 := Lib.hid hF
  have P4 := Lib.hid hP
  have G4 := Lib.hid (G3.out.below hB)
  clear hF hP G3
  have B4 : Hid (Below W.heap.size W Y4) := Lib.hid (B3.out.trans (hB.mono B3.out.size))
  have Q4 : Hid (Blk Y4 W.heap.size 27 [.slice (some ⟨bf, off, none⟩) fn fc, .slice pa pn pc, .int .u64 ht]) := Lib.hid (Q3.out.below hB Q3.out.lt)
  clear hB B3 Q3
  go_wp2_with fail
  refine (ask_load i HHI.out g2 fa2 fn fc2 pa2 pn pc2 ht fs ps Y4 G4 (Lib.hid (HT.out.keep B4.out)) F4 P4 HHH.out HF3.out HP3.out).mono ?_
  rw [HE1.out]
  rw [ret_fold]
  rintro e Y5 ⟨rfl, hB⟩
  have B5 : Hid (Below W.heap.size W Y5) := Lib.hid (B4.out.trans (hB.mono B4.out.size))
  have Q5 : Hid (Blk Y5 W.heap.size 27 [.slice (some ⟨bf, off, none⟩) fn fc, .slice pa pn pc, .int .u64 ht]) := Lib.hid (Q4.out.below hB Q4.out.lt)
  clear hB B4 Q4 F4 P4 G4
  have cx := (B5.out.cell (p := ⟨bf, off + i, none⟩) HBF.out).trans HCF.out
  have c0 := Q5.out.cell 0
  have c1 := Q5.out.cell 1
  have c2 := Q5.out.cell 2
  simp only [List.getElem?_cons_zero, List.getElem?_cons_succ] at c0 c1 c2
  have e0 : ∀ ob, (Y5.alloc ob).cell? ⟨W.heap.size, 0, none⟩ = some (.slice (some ⟨bf, off, none⟩) fn fc) := fun ob => by rw [World.cell?_alloc_lt _ _ _ Q5.out.lt]; exact c0
  have e1 : ∀ ob, (Y5.alloc ob).cell? ⟨W.heap.size, 1, none⟩ = some (.slice pa pn pc) := fun ob => by rw [World.cell?_alloc_lt _ _ _ Q5.out.lt]; exact c1
  have e2 : ∀ ob, (Y5.alloc ob).cell? ⟨W.heap.size, 2, none⟩ = some (.int .u64 ht) := fun ob => by rw [World.cell?_alloc_lt _ _ _ Q5.out.lt]; exact c2
  go_wp2_with fail
  clear c0 c1 c2
  clear e0 e1 e2
  have hB : Below Y5.heap.size Y5 (Y5.alloc (.cells #[.int .u8 16, .int .u8 (i : Int), .int .u8 0] 5)) := up1 Y5 _
  have B6 : Hid (Below W.heap.size W (Y5.alloc (.cells #[.int .u8 16, .int .u8 (i : Int), .int .u8 0] 5))) := Lib.hid (B5.out.trans (hB.mono B5.out.size))
  have Q6 : Hid (Blk (Y5.alloc (.cells #[.int .u8 16, .int .u8 (i : Int), .int .u8 0] 5)) W.heap.size 27 [.slice (some ⟨bf, off, none⟩) fn fc, .slice pa pn pc, .int .u64 ht]) := Lib.hid (Q5.out.below hB Q5.out.lt)
  clear hB B5 Q5
  have G6 : Hid (Pg (Y5.alloc (.cells #[.int .u8 16, .int .u8 (i : Int), .int .u8 0] 5)) (some ⟨Y5.heap.size, 0, none⟩) 3 3 [16, (i : Int), 0]) := Lib.hid (pg_lit3 Y5 16 (i : Int) 0 ⟨by decide, by decide⟩ HI.out ⟨by decide, by decide⟩)
  generalize (Y5.alloc (.cells #[.int .u8 16, .int .u8 (i : Int), .int .u8 0] 5)) = Y6 at B6 Q6 G6 ⊢
  generalize Y5.heap.size = g5 at G6 ⊢
  refine (HTO.out Y6 (Lib.hid (HF.out.below (B := 0) B6.out)) (Lib.hid (HP.out.below B6.out))).mono ?_
  rintro e Y7 ⟨fa5, fc5, pa5, pc5, rfl, hF, hP, hB⟩
  have F7 := Lib.hid hF
  have P7 := Lib.hid hP
  have G7 := Lib.hid (G6.out.below hB)
  clear hF hP G6
  have B7 : Hid (Below W.heap.size W Y7) := Lib.hid (B6.out.trans (hB.mono B6.out.size))
  have Q7 : Hid (Blk Y7 W.heap.size 27 [.slice (some ⟨bf, off, none⟩) fn fc, .slice pa pn pc, .int .u64 ht]) := Lib.hid (Q6.out.below hB Q6.out.lt)
  clear hB B6 Q6
  go_wp2_with fail
  refine (ask_paid i HHI.out g5 fa5 fn fc5 pa5 pn pc5 ht fs ps Y7 G7 (Lib.hid (HT.out.keep B7.out)) F7 P7 HHH.out HF3.out HP3.out).mono ?_
  rw [HE2.out]
  rw [ret_fold]
  rintro e Y8 ⟨rfl, hB⟩
  have B8 : Hid (Below W.heap.size W Y8) := Lib.hid (B7.out.trans (hB.mono B7.out.size))
  have Q8 : Hid (Blk Y8 W.heap.size 27 [.slice (some ⟨bf, off, none⟩) fn fc, .slice pa pn pc, .int .u64 ht]) := Lib.hid (Q7.out.below hB Q7.out.lt)
  clear hB B7 Q7 F7 P7 G7
  have c0 := Q8.out.cell 0
  have c1 := Q8.out.cell 1
  have c2 := Q8.out.cell 2
  simp only [List.getElem?_cons_zero, List.getElem?_cons_succ] at c0 c1 c2
  have e0 : ∀ ob, (Y8.alloc ob).cell? ⟨W.heap.size, 0, none⟩ = some (.slice (some ⟨bf, off, none⟩) fn fc) := fun ob => by rw [World.cell?_alloc_lt _ _ _ Q8.out.lt]; exact c0
  have e1 : ∀ ob, (Y8.alloc ob).cell? ⟨W.heap.size, 1, none⟩ = some (.slice pa pn pc) := fun ob => by rw [World.cell?_alloc_lt _ _ _ Q8.out.lt]; exact c1
  have e2 : ∀ ob, (Y8.alloc ob).cell? ⟨W.heap.size, 2, none⟩ = some (.int .u64 ht) := fun ob => by rw [World.cell?_alloc_lt _ _ _ Q8.out.lt]; exact c2
  go_wp2_with fail
  clear c0 c1 c2
  clear e0 e1 e2
  have hB : Below Y8.heap.size Y8 (Y8.alloc (.cells #[.int .u8 17, .int .u8 0] 5)) := up1 Y8 _
  have B9 : Hid (Below W.heap.size W (Y8.alloc (.cells #[.int .u8 17, .int .u8 0] 5))) := Lib.hid (B8.out.trans (hB.mono B8.out.size))
  have Q9 : Hid (Blk (Y8.alloc (.cells #[.int .u8 17, .int .u8 0] 5)) W.heap.size 27 [.slice (some ⟨bf, off, none⟩) fn fc, .slice pa pn pc, .int .u64 ht]) := Lib.hid (Q8.out.below hB Q8.out.lt)
  clear hB B8 Q8
  have G9 : Hid (Pg (Y8.alloc (.cells #[.int .u8 17, .int .u8 0] 5)) (some ⟨Y8.heap.size, 0, none⟩) 2 2 [17, 0]) := Lib.hid (pg_two Y8 17 0 ⟨by decide, by decide⟩ ⟨by decide, by decide⟩)
  generalize (Y8.alloc (.cells #[.int .u8 17, .int .u8 0] 5)) = Y9 at B9 Q9 G9 ⊢
  generalize Y8.heap.size = g8 at G9 ⊢
  refine (HTO.out Y9 (Lib.hid (HF.out.below (B := 0) B9.out)) (Lib.hid (HP.out.below B9.out))).mono ?_
  rintro e Y10 ⟨fa8, fc8, pa8, pc8, rfl, hF, hP, hB⟩
  have F10 := Lib.hid hF
  have P10 := Lib.hid hP
  have G10 := Lib.hid (G9.out.below hB)
  clear hF hP G9
  have B10 : Hid (Below W.heap.size W Y10) := Lib.hid (B9.out.trans (hB.mono B9.out.size))
  have Q10 : Hid (Blk Y10 W.heap.size 27 [.slice (some ⟨bf, off, none⟩) fn fc, .slice pa pn pc, .int .u64 ht]) := Lib.hid (Q9.out.below hB Q9.out.lt)
  clear hB B9 Q9
  go_wp2_with fail
  refine (ask_now g8 fa8 fn fc8 pa8 pn pc8 ht fs ps Y10 G10 (Lib.hid (HT.out.keep B10.out)) F10 P10 HHH.out HF3.out HP3.out).mono ?_
  rw [ret_fold]
  rintro e Y11 ⟨rfl, hB⟩
  have B11 : Hid (Below W.heap.size W Y11) := Lib.hid (B10.out.trans (hB.mono B10.out.size))
  have Q11 : Hid (Blk Y11 W.heap.size 27 [.slice (some ⟨bf, off, none⟩) fn fc, .slice pa pn pc, .int .u64 ht]) := Lib.hid (Q10.out.below hB Q10.out.lt)
  clear hB B10 Q10 F10 P10 G10
  have c0 := Q11.out.cell 0
  have c1 := Q11.out.cell 1
  have c2 := Q11.out.cell 2
  simp only [List.getElem?_cons_zero, List.getElem?_cons_succ] at c0 c1 c2
  go_wp2_with fail
  refine (awake_any Y11 (Lib.hid (HM.out.below B11.out)) (Lib.hid (HT.out.keep B11.out)) (Lib.hid (PTab.below HPT.out B11.out))).mono ?_
  rintro e Y12 ⟨rfl, hB⟩
  have B12 : Hid (Below W.heap.size W Y12) := Lib.hid (B11.out.trans (hB.mono B11.out.size))
  have Q12 : Hid (Blk Y12 W.heap.size 27 [.slice (some ⟨bf, off, none⟩) fn fc, .slice pa pn pc, .int .u64 ht]) := Lib.hid (Q11.out.below hB Q11.out.lt)
  clear hB B11 Q11
  clear c0 c1 c2
  have c0 := Q12.out.cell 0
  have c1 := Q12.out.cell 1
  have c2 := Q12.out.cell 2
  simp only [List.getElem?_cons_zero, List.getElem?_cons_succ] at c0 c1 c2
  go_wp2
  go_ret
  exact ⟨rfl, B12.out⟩

set_option maxRecDepth 100000 in
set_option maxHeartbeats 4000000 in
theorem asks_yt (fa : Option Addr) (fn fc : Nat) (pa : Option Addr) (pn pc : Nat) (ht : Int) (fs : List Int) (ps : List Bool) (i : Nat) (W : World) (HM : Hid (MCell W)) (HT : Hid (KTab W)) (HPT : Hid (PTab W)) (HF : Hid (FRow W fa fn fs)) (HP : Hid (BRow W pa pn ps)) (hh : Word ht) (hf : fn ≤ maxLen) (hp : pn ≤ maxLen) (hi : i < 256) (hl : lightB fn pn = true) (h1 : i < fn) (h2 : i < pn) (h3 : ps.getD i false = true) :
    Calls Tryd.prog 7 #[wldV fa fn fc pa pn pc ht, .int .u8 (i : Int)] W fun e W1 => e = .returned (.bool true) ∧ Below W.heap.size W W1 := by
  have HL := Lib.hid (fun w => light_any fa fn fc pa pn pc ht w hf hp)
  rw [hl] at HL
  obtain ⟨hf3, hp3⟩ := light_yes hl
  have HF3 := Lib.hid hf3
  have HP3 := Lib.hid hp3
  have HHI := Lib.hid hi
  have HHH := Lib.hid hh
  have i0 : (0 : Int) ≤ (i : Int) := Int.natCast_nonneg _
  have i1 : (i : Int) < 256 := by omega
  have HI : Hid ((0 : Int) ≤ (i : Int) ∧ (i : Int) < 256) := Lib.hid ⟨i0, i1⟩
  have HTO := Lib.hid (fun w hF hP => to_any fa fn fc pa pn pc ht fs ps w hF hP hf3 hp3)
  have d1 : (i : Int) < (fn : Int) := by omega
  have d2 : (i : Int) < (pn : Int) := by omega
  have hfl := HF.out.len
  have hpl := HP.out.len
  obtain ⟨x, hx⟩ : ∃ x, fs.getD i 0 = x := ⟨_, rfl⟩
  have HE1 : Hid ((if fs.length ≤ i then ((0 : Int), 1, (1 : Int)) else (fs.getD i 0, 2, 0)) = (x, 2, 0)) := Lib.hid (by rw [if_neg (by omega), hx])
  have HE2 : Hid ((if ps.length ≤ i then ((0 : Int), 10, (1 : Int)) else (one01 (ps.getD i false), 11, 0)) = (1, 11, 0)) := Lib.hid (by rw [if_neg (by omega)]; rw [h3]; rfl)
  obtain ⟨bf, off, hfa, hbf, hcf⟩ := HF.out.at_ i (by omega)
  subst hfa
  have HCF := Lib.hid hcf
  have HBF := Lib.hid hbf
  rw [hx] at HCF
  clear hcf hbf
  obtain ⟨bp, ofp, hpa, hbp, hcp⟩ := HP.out.at_ i (by omega)
  subst hpa
  rw [h3] at hcp
  have HCP := Lib.hid hcp
  have HBP := Lib.hid hbp
  clear hcp hbp
  clear hx hl hf hp h1 h2 hfl hpl hf3 hp3 hi hh h3
  unfold wldV at HL HTO ⊢
  go_enter Tryd.func7, Tryd.ntmps7
  go_upto_region 1 with fail
  have B1 : Hid (Below W.heap.size W (W.alloc (.cells #[.slice (some ⟨bf, off, none⟩) fn fc, .slice (some ⟨bp, ofp, none⟩) pn pc, .int .u64 ht] 27))) := Lib.hid (up1 W _)
  have Q1 : Hid (Blk (W.alloc (.cells #[.slice (some ⟨bf, off, none⟩) fn fc, .slice (some ⟨bp, ofp, none⟩) pn pc, .int .u64 ht] 27)) W.heap.size 27 [.slice (some ⟨bf, off, none⟩) fn fc, .slice (some ⟨bp, ofp, none⟩) pn pc, .int .u64 ht]) := Lib.hid (Blk.new W 27 [.slice (some ⟨bf, off, none⟩) fn fc, .slice (some ⟨bp, ofp, none⟩) pn pc, .int .u64 ht])
  generalize W.alloc (.cells #[.slice (some ⟨bf, off, none⟩) fn fc, .slice (some ⟨bp, ofp, none⟩) pn pc, .int .u64 ht] 27) = Y1 at B1 Q1 ⊢
  have c0 := Q1.out.cell 0
  have c1 := Q1.out.cell 1
  have c2 := Q1.out.cell 2
  simp only [List.getElem?_cons_zero, List.getElem?_cons_succ] at c0 c1 c2
  go_wp2_with fail
  clear c0 c1 c2
  refine (HL.out _).mono ?_
  rintro e Y2 ⟨rfl, hB⟩
  have B2 : Hid (Below W.heap.size W Y2) := Lib.hid (B1.out.trans (hB.mono B1.out.size))
  have Q2 : Hid (Blk Y2 W.heap.size 27 [.slice (some ⟨bf, off, none⟩) fn fc, .slice (some ⟨bp, ofp, none⟩) pn pc, .int .u64 ht]) := Lib.hid (Q1.out.below hB Q1.out.lt)
  clear hB B1 Q1
  have c0 := Q2.out.cell 0
  have c1 := Q2.out.cell 1
  have c2 := Q2.out.cell 2
  simp only [List.getElem?_cons_zero, List.getElem?_cons_succ] at c0 c1 c2
  have e0 : ∀ ob, (Y2.alloc ob).cell? ⟨W.heap.size, 0, none⟩ = some (.slice (some ⟨bf, off, none⟩) fn fc) := fun ob => by rw [World.cell?_alloc_lt _ _ _ Q2.out.lt]; exact c0
  have e1 : ∀ ob, (Y2.alloc ob).cell? ⟨W.heap.size, 1, none⟩ = some (.slice (some ⟨bp, ofp, none⟩) pn pc) := fun ob => by rw [World.cell?_alloc_lt _ _ _ Q2.out.lt]; exact c1
  have e2 : ∀ ob, (Y2.alloc ob).cell? ⟨W.heap.size, 2, none⟩ = some (.int .u64 ht) := fun ob => by rw [World.cell?_alloc_lt _ _ _ Q2.out.lt]; exact c2
  go_wp2_with fail
  clear c0 c1 c2
  clear e0 e1 e2
  have hB : Below Y2.heap.size Y2 (Y2.alloc (.cells #[.int .u8 2, .int .u8 (i : Int), .int .u8 0] 5)) := up1 Y2 _
  have B3 : Hid (Below W.heap.size W (Y2.alloc (.cells #[.int .u8 2, .int .u8 (i : Int), .int .u8 0] 5))) := Lib.hid (B2.out.trans (hB.mono B2.out.size))
  have Q3 : Hid (Blk (Y2.alloc (.cells #[.int .u8 2, .int .u8 (i : Int), .int .u8 0] 5)) W.heap.size 27 [.slice (some ⟨bf, off, none⟩) fn fc, .slice (some ⟨bp, ofp, none⟩) pn pc, .int .u64 ht]) := Lib.hid (Q2.out.below hB Q2.out.lt)
  clear hB B2 Q2
  have G3 : Hid (Pg (Y2.alloc (.cells #[.int .u8 2, .int .u8 (i : Int), .int .u8 0] 5)) (some ⟨Y2.heap.size, 0, none⟩) 3 3 [2, (i : Int), 0]) := Lib.hid (pg_lit3 Y2 2 (i : Int) 0 ⟨by decide, by decide⟩ HI.out ⟨by decide, by decide⟩)
  generalize (Y2.alloc (.cells #[.int .u8 2, .int .u8 (i : Int), .int .u8 0] 5)) = Y3 at B3 Q3 G3 ⊢
  generalize Y2.heap.size = g2 at G3 ⊢
  refine (HTO.out Y3 (Lib.hid (HF.out.below (B := 0) B3.out)) (Lib.hid (HP.out.below B3.out))).mono ?_
  rintro e Y4 ⟨fa2, fc2, pa2, pc2, rfl, hF, hP, hB⟩
  have F4 := Lib.hid hF
  have P4 := Lib.hid hP
  have G4 := Lib.hid (G3.out.below hB)
  clear hF hP G3
  have B4 : Hid (Below W.heap.size W Y4) := Lib.hid (B3.out.trans (hB.mono B3.out.size))
  have Q4 : Hid (Blk Y4 W.heap.size 27 [.slice (some ⟨bf, off, none⟩) fn fc, .slice (some ⟨bp, ofp, none⟩) pn pc, .int .u64 ht]) := Lib.hid (Q3.out.below hB Q3.out.lt)
  clear hB B3 Q3
  go_wp2_with fail
  refine (ask_load i HHI.out g2 fa2 fn fc2 pa2 pn pc2 ht fs ps Y4 G4 (Lib.hid (HT.out.keep B4.out)) F4 P4 HHH.out HF3.out HP3.out).mono ?_
  rw [HE1.out]
  rw [ret_fold]
  rintro e Y5 ⟨rfl, hB⟩
  have B5 : Hid (Below W.heap.size W Y5) := Lib.hid (B4.out.trans (hB.mono B4.out.size))
  have Q5 : Hid (Blk Y5 W.heap.size 27 [.slice (some ⟨bf, off, none⟩) fn fc, .slice (some ⟨bp, ofp, none⟩) pn pc, .int .u64 ht]) := Lib.hid (Q4.out.below hB Q4.out.lt)
  clear hB B4 Q4 F4 P4 G4
  have cx := (B5.out.cell (p := ⟨bf, off + i, none⟩) HBF.out).trans HCF.out
  have c0 := Q5.out.cell 0
  have c1 := Q5.out.cell 1
  have c2 := Q5.out.cell 2
  simp only [List.getElem?_cons_zero, List.getElem?_cons_succ] at c0 c1 c2
  have e0 : ∀ ob, (Y5.alloc ob).cell? ⟨W.heap.size, 0, none⟩ = some (.slice (some ⟨bf, off, none⟩) fn fc) := fun ob => by rw [World.cell?_alloc_lt _ _ _ Q5.out.lt]; exact c0
  have e1 : ∀ ob, (Y5.alloc ob).cell? ⟨W.heap.size, 1, none⟩ = some (.slice (some ⟨bp, ofp, none⟩) pn pc) := fun ob => by rw [World.cell?_alloc_lt _ _ _ Q5.out.lt]; exact c1
  have e2 : ∀ ob, (Y5.alloc ob).cell? ⟨W.heap.size, 2, none⟩ = some (.int .u64 ht) := fun ob => by rw [World.cell?_alloc_lt _ _ _ Q5.out.lt]; exact c2
  go_wp2_with fail
  clear c0 c1 c2
  clear e0 e1 e2
  have hB : Below Y5.heap.size Y5 (Y5.alloc (.cells #[.int .u8 16, .int .u8 (i : Int), .int .u8 0] 5)) := up1 Y5 _
  have B6 : Hid (Below W.heap.size W (Y5.alloc (.cells #[.int .u8 16, .int .u8 (i : Int), .int .u8 0] 5))) := Lib.hid (B5.out.trans (hB.mono B5.out.size))
  have Q6 : Hid (Blk (Y5.alloc (.cells #[.int .u8 16, .int .u8 (i : Int), .int .u8 0] 5)) W.heap.size 27 [.slice (some ⟨bf, off, none⟩) fn fc, .slice (some ⟨bp, ofp, none⟩) pn pc, .int .u64 ht]) := Lib.hid (Q5.out.below hB Q5.out.lt)
  clear hB B5 Q5
  have G6 : Hid (Pg (Y5.alloc (.cells #[.int .u8 16, .int .u8 (i : Int), .int .u8 0] 5)) (some ⟨Y5.heap.size, 0, none⟩) 3 3 [16, (i : Int), 0]) := Lib.hid (pg_lit3 Y5 16 (i : Int) 0 ⟨by decide, by decide⟩ HI.out ⟨by decide, by decide⟩)
  generalize (Y5.alloc (.cells #[.int .u8 16, .int .u8 (i : Int), .int .u8 0] 5)) = Y6 at B6 Q6 G6 ⊢
  generalize Y5.heap.size = g5 at G6 ⊢
  refine (HTO.out Y6 (Lib.hid (HF.out.below (B := 0) B6.out)) (Lib.hid (HP.out.below B6.out))).mono ?_
  rintro e Y7 ⟨fa5, fc5, pa5, pc5, rfl, hF, hP, hB⟩
  have F7 := Lib.hid hF
  have P7 := Lib.hid hP
  have G7 := Lib.hid (G6.out.below hB)
  clear hF hP G6
  have B7 : Hid (Below W.heap.size W Y7) := Lib.hid (B6.out.trans (hB.mono B6.out.size))
  have Q7 : Hid (Blk Y7 W.heap.size 27 [.slice (some ⟨bf, off, none⟩) fn fc, .slice (some ⟨bp, ofp, none⟩) pn pc, .int .u64 ht]) := Lib.hid (Q6.out.below hB Q6.out.lt)
  clear hB B6 Q6
  go_wp2_with fail
  refine (ask_paid i HHI.out g5 fa5 fn fc5 pa5 pn pc5 ht fs ps Y7 G7 (Lib.hid (HT.out.keep B7.out)) F7 P7 HHH.out HF3.out HP3.out).mono ?_
  rw [HE2.out]
  rw [ret_fold]
  rintro e Y8 ⟨rfl, hB⟩
  have B8 : Hid (Below W.heap.size W Y8) := Lib.hid (B7.out.trans (hB.mono B7.out.size))
  have Q8 : Hid (Blk Y8 W.heap.size 27 [.slice (some ⟨bf, off, none⟩) fn fc, .slice (some ⟨bp, ofp, none⟩) pn pc, .int .u64 ht]) := Lib.hid (Q7.out.below hB Q7.out.lt)
  clear hB B7 Q7 F7 P7 G7
  have cy := (B8.out.cell (p := ⟨bp, ofp + i, none⟩) HBP.out).trans HCP.out
  have c0 := Q8.out.cell 0
  have c1 := Q8.out.cell 1
  have c2 := Q8.out.cell 2
  simp only [List.getElem?_cons_zero, List.getElem?_cons_succ] at c0 c1 c2
  have e0 : ∀ ob, (Y8.alloc ob).cell? ⟨W.heap.size, 0, none⟩ = some (.slice (some ⟨bf, off, none⟩) fn fc) := fun ob => by rw [World.cell?_alloc_lt _ _ _ Q8.out.lt]; exact c0
  have e1 : ∀ ob, (Y8.alloc ob).cell? ⟨W.heap.size, 1, none⟩ = some (.slice (some ⟨bp, ofp, none⟩) pn pc) := fun ob => by rw [World.cell?_alloc_lt _ _ _ Q8.out.lt]; exact c1
  have e2 : ∀ ob, (Y8.alloc ob).cell? ⟨W.heap.size, 2, none⟩ = some (.int .u64 ht) := fun ob => by rw [World.cell?_alloc_lt _ _ _ Q8.out.lt]; exact c2
  go_wp2_with fail
  clear c0 c1 c2
  clear e0 e1 e2
  have hB : Below Y8.heap.size Y8 (Y8.alloc (.cells #[.int .u8 17, .int .u8 0] 5)) := up1 Y8 _
  have B9 : Hid (Below W.heap.size W (Y8.alloc (.cells #[.int .u8 17, .int .u8 0] 5))) := Lib.hid (B8.out.trans (hB.mono B8.out.size))
  have Q9 : Hid (Blk (Y8.alloc (.cells #[.int .u8 17, .int .u8 0] 5)) W.heap.size 27 [.slice (some ⟨bf, off, none⟩) fn fc, .slice (some ⟨bp, ofp, none⟩) pn pc, .int .u64 ht]) := Lib.hid (Q8.out.below hB Q8.out.lt)
  clear hB B8 Q8
  have G9 : Hid (Pg (Y8.alloc (.cells #[.int .u8 17, .int .u8 0] 5)) (some ⟨Y8.heap.size, 0, none⟩) 2 2 [17, 0]) := Lib.hid (pg_two Y8 17 0 ⟨by decide, by decide⟩ ⟨by decide, by decide⟩)
  generalize (Y8.alloc (.cells #[.int .u8 17, .int .u8 0] 5)) = Y9 at B9 Q9 G9 ⊢
  generalize Y8.heap.size = g8 at G9 ⊢
  refine (HTO.out Y9 (Lib.hid (HF.out.below (B := 0) B9.out)) (Lib.hid (HP.out.below B9.out))).mono ?_
  rintro e Y10 ⟨fa8, fc8, pa8, pc8, rfl, hF, hP, hB⟩
  have F10 := Lib.hid hF
  have P10 := Lib.hid hP
  have G10 := Lib.hid (G9.out.below hB)
  clear hF hP G9
  have B10 : Hid (Below W.heap.size W Y10) := Lib.hid (B9.out.trans (hB.mono B9.out.size))
  have Q10 : Hid (Blk Y10 W.heap.size 27 [.slice (some ⟨bf, off, none⟩) fn fc, .slice (some ⟨bp, ofp, none⟩) pn pc, .int .u64 ht]) := Lib.hid (Q9.out.below hB Q9.out.lt)
  clear hB B9 Q9
  go_wp2_with fail
  refine (ask_now g8 fa8 fn fc8 pa8 pn pc8 ht fs ps Y10 G10 (Lib.hid (HT.out.keep B10.out)) F10 P10 HHH.out HF3.out HP3.out).mono ?_
  rw [ret_fold]
  rintro e Y11 ⟨rfl, hB⟩
  have B11 : Hid (Below W.heap.size W Y11) := Lib.hid (B10.out.trans (hB.mono B10.out.size))
  have Q11 : Hid (Blk Y11 W.heap.size 27 [.slice (some ⟨bf, off, none⟩) fn fc, .slice (some ⟨bp, ofp, none⟩) pn pc, .int .u64 ht]) := Lib.hid (Q10.out.below hB Q10.out.lt)
  clear hB B10 Q10 F10 P10 G10
  have c0 := Q11.out.cell 0
  have c1 := Q11.out.cell 1
  have c2 := Q11.out.cell 2
  simp only [List.getElem?_cons_zero, List.getElem?_cons_succ] at c0 c1 c2
  go_wp2_with fail
  refine (awake_any Y11 (Lib.hid (HM.out.below B11.out)) (Lib.hid (HT.out.keep B11.out)) (Lib.hid (PTab.below HPT.out B11.out))).mono ?_
  rintro e Y12 ⟨rfl, hB⟩
  have B12 : Hid (Below W.heap.size W Y12) := Lib.hid (B11.out.trans (hB.mono B11.out.size))
  have Q12 : Hid (Blk Y12 W.heap.size 27 [.slice (some ⟨bf, off, none⟩) fn fc, .slice (some ⟨bp, ofp, none⟩) pn pc, .int .u64 ht]) := Lib.hid (Q11.out.below hB Q11.out.lt)
  clear hB B11 Q11
  clear c0 c1 c2
  have c0 := Q12.out.cell 0
  have c1 := Q12.out.cell 1
  have c2 := Q12.out.cell 2
  simp only [List.getElem?_cons_zero, List.getElem?_cons_succ] at c0 c1 c2
  go_wp2
  go_ret
  exact ⟨rfl, B12.out⟩

set_option maxRecDepth 100000 in
set_option maxHeartbeats 4000000 in
theorem asks_yf (fa : Option Addr) (fn fc : Nat) (pa : Option Addr) (pn pc : Nat) (ht : Int) (fs : List Int) (ps : List Bool) (i : Nat) (W : World) (HM : Hid (MCell W)) (HT : Hid (KTab W)) (HPT : Hid (PTab W)) (HF : Hid (FRow W fa fn fs)) (HP : Hid (BRow W pa pn ps)) (hh : Word ht) (hf : fn ≤ maxLen) (hp : pn ≤ maxLen) (hi : i < 256) (hl : lightB fn pn = true) (h1 : i < fn) (h2 : i < pn) (h3 : ps.getD i false = false) :
    Calls Tryd.prog 7 #[wldV fa fn fc pa pn pc ht, .int .u8 (i : Int)] W fun e W1 => e = .returned (.bool true) ∧ Below W.heap.size W W1 := by
  have HL := Lib.hid (fun w => light_any fa fn fc pa pn pc ht w hf hp)
  rw [hl] at HL
  obtain ⟨hf3, hp3⟩ := light_yes hl
  have HF3 := Lib.hid hf3
  have HP3 := Lib.hid hp3
  have HHI := Lib.hid hi
  have HHH := Lib.hid hh
  have i0 : (0 : Int) ≤ (i : Int) := Int.natCast_nonneg _
  have i1 : (i : Int) < 256 := by omega
  have HI : Hid ((0 : Int) ≤ (i : Int) ∧ (i : Int) < 256) := Lib.hid ⟨i0, i1⟩
  have HTO := Lib.hid (fun w hF hP => to_any fa fn fc pa pn pc ht fs ps w hF hP hf3 hp3)
  have d1 : (i : Int) < (fn : Int) := by omega
  have d2 : (i : Int) < (pn : Int) := by omega
  have hfl := HF.out.len
  have hpl := HP.out.len
  obtain ⟨x, hx⟩ : ∃ x, fs.getD i 0 = x := ⟨_, rfl⟩
  have HE1 : Hid ((if fs.length ≤ i then ((0 : Int), 1, (1 : Int)) else (fs.getD i 0, 2, 0)) = (x, 2, 0)) := Lib.hid (by rw [if_neg (by omega), hx])
  have HE2 : Hid ((if ps.length ≤ i then ((0 : Int), 10, (1 : Int)) else (one01 (ps.getD i false), 11, 0)) = (0, 11, 0)) := Lib.hid (by rw [if_neg (by omega)]; rw [h3]; rfl)
  obtain ⟨bf, off, hfa, hbf, hcf⟩ := HF.out.at_ i (by omega)
  subst hfa
  have HCF := Lib.hid hcf
  have HBF := Lib.hid hbf
  rw [hx] at HCF
  clear hcf hbf
  obtain ⟨bp, ofp, hpa, hbp, hcp⟩ := HP.out.at_ i (by omega)
  subst hpa
  rw [h3] at hcp
  have HCP := Lib.hid hcp
  have HBP := Lib.hid hbp
  clear hcp hbp
  clear hx hl hf hp h1 h2 hfl hpl hf3 hp3 hi hh h3
  unfold wldV at HL HTO ⊢
  go_enter Tryd.func7, Tryd.ntmps7
  go_upto_region 1 with fail
  have B1 : Hid (Below W.heap.size W (W.alloc (.cells #[.slice (some ⟨bf, off, none⟩) fn fc, .slice (some ⟨bp, ofp, none⟩) pn pc, .int .u64 ht] 27))) := Lib.hid (up1 W _)
  have Q1 : Hid (Blk (W.alloc (.cells #[.slice (some ⟨bf, off, none⟩) fn fc, .slice (some ⟨bp, ofp, none⟩) pn pc, .int .u64 ht] 27)) W.heap.size 27 [.slice (some ⟨bf, off, none⟩) fn fc, .slice (some ⟨bp, ofp, none⟩) pn pc, .int .u64 ht]) := Lib.hid (Blk.new W 27 [.slice (some ⟨bf, off, none⟩) fn fc, .slice (some ⟨bp, ofp, none⟩) pn pc, .int .u64 ht])
  generalize W.alloc (.cells #[.slice (some ⟨bf, off, none⟩) fn fc, .slice (some ⟨bp, ofp, none⟩) pn pc, .int .u64 ht] 27) = Y1 at B1 Q1 ⊢
  have c0 := Q1.out.cell 0
  have c1 := Q1.out.cell 1
  have c2 := Q1.out.cell 2
  simp only [List.getElem?_cons_zero, List.getElem?_cons_succ] at c0 c1 c2
  go_wp2_with fail
  clear c0 c1 c2
  refine (HL.out _).mono ?_
  rintro e Y2 ⟨rfl, hB⟩
  have B2 : Hid (Below W.heap.size W Y2) := Lib.hid (B1.out.trans (hB.mono B1.out.size))
  have Q2 : Hid (Blk Y2 W.heap.size 27 [.slice (some ⟨bf, off, none⟩) fn fc, .slice (some ⟨bp, ofp, none⟩) pn pc, .int .u64 ht]) := Lib.hid (Q1.out.below hB Q1.out.lt)
  clear hB B1 Q1
  have c0 := Q2.out.cell 0
  have c1 := Q2.out.cell 1
  have c2 := Q2.out.cell 2
  simp only [List.getElem?_cons_zero, List.getElem?_cons_succ] at c0 c1 c2
  have e0 : ∀ ob, (Y2.alloc ob).cell? ⟨W.heap.size, 0, none⟩ = some (.slice (some ⟨bf, off, none⟩) fn fc) := fun ob => by rw [World.cell?_alloc_lt _ _ _ Q2.out.lt]; exact c0
  have e1 : ∀ ob, (Y2.alloc ob).cell? ⟨W.heap.size, 1, none⟩ = some (.slice (some ⟨bp, ofp, none⟩) pn pc) := fun ob => by rw [World.cell?_alloc_lt _ _ _ Q2.out.lt]; exact c1
  have e2 : ∀ ob, (Y2.alloc ob).cell? ⟨W.heap.size, 2, none⟩ = some (.int .u64 ht) := fun ob => by rw [World.cell?_alloc_lt _ _ _ Q2.out.lt]; exact c2
  go_wp2_with fail
  clear c0 c1 c2
  clear e0 e1 e2
  have hB : Below Y2.heap.size Y2 (Y2.alloc (.cells #[.int .u8 2, .int .u8 (i : Int), .int .u8 0] 5)) := up1 Y2 _
  have B3 : Hid (Below W.heap.size W (Y2.alloc (.cells #[.int .u8 2, .int .u8 (i : Int), .int .u8 0] 5))) := Lib.hid (B2.out.trans (hB.mono B2.out.size))
  have Q3 : Hid (Blk (Y2.alloc (.cells #[.int .u8 2, .int .u8 (i : Int), .int .u8 0] 5)) W.heap.size 27 [.slice (some ⟨bf, off, none⟩) fn fc, .slice (some ⟨bp, ofp, none⟩) pn pc, .int .u64 ht]) := Lib.hid (Q2.out.below hB Q2.out.lt)
  clear hB B2 Q2
  have G3 : Hid (Pg (Y2.alloc (.cells #[.int .u8 2, .int .u8 (i : Int), .int .u8 0] 5)) (some ⟨Y2.heap.size, 0, none⟩) 3 3 [2, (i : Int), 0]) := Lib.hid (pg_lit3 Y2 2 (i : Int) 0 ⟨by decide, by decide⟩ HI.out ⟨by decide, by decide⟩)
  generalize (Y2.alloc (.cells #[.int .u8 2, .int .u8 (i : Int), .int .u8 0] 5)) = Y3 at B3 Q3 G3 ⊢
  generalize Y2.heap.size = g2 at G3 ⊢
  refine (HTO.out Y3 (Lib.hid (HF.out.below (B := 0) B3.out)) (Lib.hid (HP.out.below B3.out))).mono ?_
  rintro e Y4 ⟨fa2, fc2, pa2, pc2, rfl, hF, hP, hB⟩
  have F4 := Lib.hid hF
  have P4 := Lib.hid hP
  have G4 := Lib.hid (G3.out.below hB)
  clear hF hP G3
  have B4 : Hid (Below W.heap.size W Y4) := Lib.hid (B3.out.trans (hB.mono B3.out.size))
  have Q4 : Hid (Blk Y4 W.heap.size 27 [.slice (some ⟨bf, off, none⟩) fn fc, .slice (some ⟨bp, ofp, none⟩) pn pc, .int .u64 ht]) := Lib.hid (Q3.out.below hB Q3.out.lt)
  clear hB B3 Q3
  go_wp2_with fail
  refine (ask_load i HHI.out g2 fa2 fn fc2 pa2 pn pc2 ht fs ps Y4 G4 (Lib.hid (HT.out.keep B4.out)) F4 P4 HHH.out HF3.out HP3.out).mono ?_
  rw [HE1.out]
  rw [ret_fold]
  rintro e Y5 ⟨rfl, hB⟩
  have B5 : Hid (Below W.heap.size W Y5) := Lib.hid (B4.out.trans (hB.mono B4.out.size))
  have Q5 : Hid (Blk Y5 W.heap.size 27 [.slice (some ⟨bf, off, none⟩) fn fc, .slice (some ⟨bp, ofp, none⟩) pn pc, .int .u64 ht]) := Lib.hid (Q4.out.below hB Q4.out.lt)
  clear hB B4 Q4 F4 P4 G4
  have cx := (B5.out.cell (p := ⟨bf, off + i, none⟩) HBF.out).trans HCF.out
  have c0 := Q5.out.cell 0
  have c1 := Q5.out.cell 1
  have c2 := Q5.out.cell 2
  simp only [List.getElem?_cons_zero, List.getElem?_cons_succ] at c0 c1 c2
  have e0 : ∀ ob, (Y5.alloc ob).cell? ⟨W.heap.size, 0, none⟩ = some (.slice (some ⟨bf, off, none⟩) fn fc) := fun ob => by rw [World.cell?_alloc_lt _ _ _ Q5.out.lt]; exact c0
  have e1 : ∀ ob, (Y5.alloc ob).cell? ⟨W.heap.size, 1, none⟩ = some (.slice (some ⟨bp, ofp, none⟩) pn pc) := fun ob => by rw [World.cell?_alloc_lt _ _ _ Q5.out.lt]; exact c1
  have e2 : ∀ ob, (Y5.alloc ob).cell? ⟨W.heap.size, 2, none⟩ = some (.int .u64 ht) := fun ob => by rw [World.cell?_alloc_lt _ _ _ Q5.out.lt]; exact c2
  go_wp2_with fail
  clear c0 c1 c2
  clear e0 e1 e2
  have hB : Below Y5.heap.size Y5 (Y5.alloc (.cells #[.int .u8 16, .int .u8 (i : Int), .int .u8 0] 5)) := up1 Y5 _
  have B6 : Hid (Below W.heap.size W (Y5.alloc (.cells #[.int .u8 16, .int .u8 (i : Int), .int .u8 0] 5))) := Lib.hid (B5.out.trans (hB.mono B5.out.size))
  have Q6 : Hid (Blk (Y5.alloc (.cells #[.int .u8 16, .int .u8 (i : Int), .int .u8 0] 5)) W.heap.size 27 [.slice (some ⟨bf, off, none⟩) fn fc, .slice (some ⟨bp, ofp, none⟩) pn pc, .int .u64 ht]) := Lib.hid (Q5.out.below hB Q5.out.lt)
  clear hB B5 Q5
  have G6 : Hid (Pg (Y5.alloc (.cells #[.int .u8 16, .int .u8 (i : Int), .int .u8 0] 5)) (some ⟨Y5.heap.size, 0, none⟩) 3 3 [16, (i : Int), 0]) := Lib.hid (pg_lit3 Y5 16 (i : Int) 0 ⟨by decide, by decide⟩ HI.out ⟨by decide, by decide⟩)
  generalize (Y5.alloc (.cells #[.int .u8 16, .int .u8 (i : Int), .int .u8 0] 5)) = Y6 at B6 Q6 G6 ⊢
  generalize Y5.heap.size = g5 at G6 ⊢
  refine (HTO.out Y6 (Lib.hid (HF.out.below (B := 0) B6.out)) (Lib.hid (HP.out.below B6.out))).mono ?_
  rintro e Y7 ⟨fa5, fc5, pa5, pc5, rfl, hF, hP, hB⟩
  have F7 := Lib.hid hF
  have P7 := Lib.hid hP
  have G7 := Lib.hid (G6.out.below hB)
  clear hF hP G6
  have B7 : Hid (Below W.heap.size W Y7) := Lib.hid (B6.out.trans (hB.mono B6.out.size))
  have Q7 : Hid (Blk Y7 W.heap.size 27 [.slice (some ⟨bf, off, none⟩) fn fc, .slice (some ⟨bp, ofp, none⟩) pn pc, .int .u64 ht]) := Lib.hid (Q6.out.below hB Q6.out.lt)
  clear hB B6 Q6
  go_wp2_with fail
  refine (ask_paid i HHI.out g5 fa5 fn fc5 pa5 pn pc5 ht fs ps Y7 G7 (Lib.hid (HT.out.keep B7.out)) F7 P7 HHH.out HF3.out HP3.out).mono ?_
  rw [HE2.out]
  rw [ret_fold]
  rintro e Y8 ⟨rfl, hB⟩
  have B8 : Hid (Below W.heap.size W Y8) := Lib.hid (B7.out.trans (hB.mono B7.out.size))
  have Q8 : Hid (Blk Y8 W.heap.size 27 [.slice (some ⟨bf, off, none⟩) fn fc, .slice (some ⟨bp, ofp, none⟩) pn pc, .int .u64 ht]) := Lib.hid (Q7.out.below hB Q7.out.lt)
  clear hB B7 Q7 F7 P7 G7
  have cy := (B8.out.cell (p := ⟨bp, ofp + i, none⟩) HBP.out).trans HCP.out
  have c0 := Q8.out.cell 0
  have c1 := Q8.out.cell 1
  have c2 := Q8.out.cell 2
  simp only [List.getElem?_cons_zero, List.getElem?_cons_succ] at c0 c1 c2
  have e0 : ∀ ob, (Y8.alloc ob).cell? ⟨W.heap.size, 0, none⟩ = some (.slice (some ⟨bf, off, none⟩) fn fc) := fun ob => by rw [World.cell?_alloc_lt _ _ _ Q8.out.lt]; exact c0
  have e1 : ∀ ob, (Y8.alloc ob).cell? ⟨W.heap.size, 1, none⟩ = some (.slice (some ⟨bp, ofp, none⟩) pn pc) := fun ob => by rw [World.cell?_alloc_lt _ _ _ Q8.out.lt]; exact c1
  have e2 : ∀ ob, (Y8.alloc ob).cell? ⟨W.heap.size, 2, none⟩ = some (.int .u64 ht) := fun ob => by rw [World.cell?_alloc_lt _ _ _ Q8.out.lt]; exact c2
  go_wp2_with fail
  clear c0 c1 c2
  clear e0 e1 e2
  have hB : Below Y8.heap.size Y8 (Y8.alloc (.cells #[.int .u8 17, .int .u8 0] 5)) := up1 Y8 _
  have B9 : Hid (Below W.heap.size W (Y8.alloc (.cells #[.int .u8 17, .int .u8 0] 5))) := Lib.hid (B8.out.trans (hB.mono B8.out.size))
  have Q9 : Hid (Blk (Y8.alloc (.cells #[.int .u8 17, .int .u8 0] 5)) W.heap.size 27 [.slice (some ⟨bf, off, none⟩) fn fc, .slice (some ⟨bp, ofp, none⟩) pn pc, .int .u64 ht]) := Lib.hid (Q8.out.below hB Q8.out.lt)
  clear hB B8 Q8
  have G9 : Hid (Pg (Y8.alloc (.cells #[.int .u8 17, .int .u8 0] 5)) (some ⟨Y8.heap.size, 0, none⟩) 2 2 [17, 0]) := Lib.hid (pg_two Y8 17 0 ⟨by decide, by decide⟩ ⟨by decide, by decide⟩)
  generalize (Y8.alloc (.cells #[.int .u8 17, .int .u8 0] 5)) = Y9 at B9 Q9 G9 ⊢
  generalize Y8.heap.size = g8 at G9 ⊢
  refine (HTO.out Y9 (Lib.hid (HF.out.below (B := 0) B9.out)) (Lib.hid (HP.out.below B9.out))).mono ?_
  rintro e Y10 ⟨fa8, fc8, pa8, pc8, rfl, hF, hP, hB⟩
  have F10 := Lib.hid hF
  have P10 := Lib.hid hP
  have G10 := Lib.hid (G9.out.below hB)
  clear hF hP G9
  have B10 : Hid (Below W.heap.size W Y10) := Lib.hid (B9.out.trans (hB.mono B9.out.size))
  have Q10 : Hid (Blk Y10 W.heap.size 27 [.slice (some ⟨bf, off, none⟩) fn fc, .slice (some ⟨bp, ofp, none⟩) pn pc, .int .u64 ht]) := Lib.hid (Q9.out.below hB Q9.out.lt)
  clear hB B9 Q9
  go_wp2_with fail
  refine (ask_now g8 fa8 fn fc8 pa8 pn pc8 ht fs ps Y10 G10 (Lib.hid (HT.out.keep B10.out)) F10 P10 HHH.out HF3.out HP3.out).mono ?_
  rw [ret_fold]
  rintro e Y11 ⟨rfl, hB⟩
  have B11 : Hid (Below W.heap.size W Y11) := Lib.hid (B10.out.trans (hB.mono B10.out.size))
  have Q11 : Hid (Blk Y11 W.heap.size 27 [.slice (some ⟨bf, off, none⟩) fn fc, .slice (some ⟨bp, ofp, none⟩) pn pc, .int .u64 ht]) := Lib.hid (Q10.out.below hB Q10.out.lt)
  clear hB B10 Q10 F10 P10 G10
  have c0 := Q11.out.cell 0
  have c1 := Q11.out.cell 1
  have c2 := Q11.out.cell 2
  simp only [List.getElem?_cons_zero, List.getElem?_cons_succ] at c0 c1 c2
  go_wp2_with fail
  refine (awake_any Y11 (Lib.hid (HM.out.below B11.out)) (Lib.hid (HT.out.keep B11.out)) (Lib.hid (PTab.below HPT.out B11.out))).mono ?_
  rintro e Y12 ⟨rfl, hB⟩
  have B12 : Hid (Below W.heap.size W Y12) := Lib.hid (B11.out.trans (hB.mono B11.out.size))
  have Q12 : Hid (Blk Y12 W.heap.size 27 [.slice (some ⟨bf, off, none⟩) fn fc, .slice (some ⟨bp, ofp, none⟩) pn pc, .int .u64 ht]) := Lib.hid (Q11.out.below hB Q11.out.lt)
  clear hB B11 Q11
  clear c0 c1 c2
  have c0 := Q12.out.cell 0
  have c1 := Q12.out.cell 1
  have c2 := Q12.out.cell 2
  simp only [List.getElem?_cons_zero, List.getElem?_cons_succ] at c0 c1 c2
  go_wp2
  go_ret
  exact ⟨rfl, B12.out⟩

set_option maxRecDepth 100000 in
set_option maxHeartbeats 4000000 in
theorem asks_nn (fa : Option Addr) (fn fc : Nat) (pa : Option Addr) (pn pc : Nat) (ht : Int) (fs : List Int) (ps : List Bool) (i : Nat) (W : World) (HM : Hid (MCell W)) (HT : Hid (KTab W)) (HPT : Hid (PTab W)) (HF : Hid (FRow W fa fn fs)) (HP : Hid (BRow W pa pn ps)) (hh : Word ht) (hf : fn ≤ maxLen) (hp : pn ≤ maxLen) (hi : i < 256) (hl : lightB fn pn = true) (h1 : fn ≤ i) (h2 : pn ≤ i) :
    Calls Tryd.prog 7 #[wldV fa fn fc pa pn pc ht, .int .u8 (i : Int)] W fun e W1 => e = .returned (.bool true) ∧ Below W.heap.size W W1 := by
  have HL := Lib.hid (fun w => light_any fa fn fc pa pn pc ht w hf hp)
  rw [hl] at HL
  obtain ⟨hf3, hp3⟩ := light_yes hl
  have HF3 := Lib.hid hf3
  have HP3 := Lib.hid hp3
  have HHI := Lib.hid hi
  have HHH := Lib.hid hh
  have i0 : (0 : Int) ≤ (i : Int) := Int.natCast_nonneg _
  have i1 : (i : Int) < 256 := by omega
  have HI : Hid ((0 : Int) ≤ (i : Int) ∧ (i : Int) < 256) := Lib.hid ⟨i0, i1⟩
  have HTO := Lib.hid (fun w hF hP => to_any fa fn fc pa pn pc ht fs ps w hF hP hf3 hp3)
  have d1 : ¬ ((i : Int) < (fn : Int)) := by omega
  have d2 : ¬ ((i : Int) < (pn : Int)) := by omega
  have hfl := HF.out.len
  have hpl := HP.out.len
  obtain ⟨x, hx⟩ : ∃ x, fs.getD i 0 = x := ⟨_, rfl⟩
  have HE1 : Hid ((if fs.length ≤ i then ((0 : Int), 1, (1 : Int)) else (fs.getD i 0, 2, 0)) = (0, 1, 1)) := Lib.hid (by rw [if_pos (by omega)])
  have HE2 : Hid ((if ps.length ≤ i then ((0 : Int), 10, (1 : Int)) else (one01 (ps.getD i false), 11, 0)) = (0, 10, 1)) := Lib.hid (by rw [if_pos (by omega)])
  clear hx hl hf hp h1 h2 hfl hpl hf3 hp3 hi hh
  unfold wldV at HL HTO ⊢
  go_enter Tryd.func7, Tryd.ntmps7
  go_upto_region 1 with fail
  have B1 : Hid (Below W.heap.size W (W.alloc (.cells #[.slice fa fn fc, .slice pa pn pc, .int .u64 ht] 27))) := Lib.hid (up1 W _)
  have Q1 : Hid (Blk (W.alloc (.cells #[.slice fa fn fc, .slice pa pn pc, .int .u64 ht] 27)) W.heap.size 27 [.slice fa fn fc, .slice pa pn pc, .int .u64 ht]) := Lib.hid (Blk.new W 27 [.slice fa fn fc, .slice pa pn pc, .int .u64 ht])
  generalize W.alloc (.cells #[.slice fa fn fc, .slice pa pn pc, .int .u64 ht] 27) = Y1 at B1 Q1 ⊢
  have c0 := Q1.out.cell 0
  have c1 := Q1.out.cell 1
  have c2 := Q1.out.cell 2
  simp only [List.getElem?_cons_zero, List.getElem?_cons_succ] at c0 c1 c2
  go_wp2_with fail
  clear c0 c1 c2
  refine (HL.out _).mono ?_
  rintro e Y2 ⟨rfl, hB⟩
  have B2 : Hid (Below W.heap.size W Y2) := Lib.hid (B1.out.trans (hB.mono B1.out.size))
  have Q2 : Hid (Blk Y2 W.heap.size 27 [.slice fa fn fc, .slice pa pn pc, .int .u64 ht]) := Lib.hid (Q1.out.below hB Q1.out.lt)
  clear hB B1 Q1
  have c0 := Q2.out.cell 0
  have c1 := Q2.out.cell 1
  have c2 := Q2.out.cell 2
  simp only [List.getElem?_cons_zero, List.getElem?_cons_succ] at c0 c1 c2
  have e0 : ∀ ob, (Y2.alloc ob).cell? ⟨W.heap.size, 0, none⟩ = some (.slice fa fn fc) := fun ob => by rw [World.cell?_alloc_lt _ _ _ Q2.out.lt]; exact c0
  have e1 : ∀ ob, (Y2.alloc ob).cell? ⟨W.heap.size, 1, none⟩ = some (.slice pa pn pc) := fun ob => by rw [World.cell?_alloc_lt _ _ _ Q2.out.lt]; exact c1
  have e2 : ∀ ob, (Y2.alloc ob).cell? ⟨W.heap.size, 2, none⟩ = some (.int .u64 ht) := fun ob => by rw [World.cell?_alloc_lt _ _ _ Q2.out.lt]; exact c2
  go_wp2_with fail
  clear c0 c1 c2
  clear e0 e1 e2
  have hB : Below Y2.heap.size Y2 (Y2.alloc (.cells #[.int .u8 2, .int .u8 (i : Int), .int .u8 0] 5)) := up1 Y2 _
  have B3 : Hid (Below W.heap.size W (Y2.alloc (.cells #[.int .u8 2, .int .u8 (i : Int), .int .u8 0] 5))) := Lib.hid (B2.out.trans (hB.mono B2.out.size))
  have Q3 : Hid (Blk (Y2.alloc (.cells #[.int .u8 2, .int .u8 (i : Int), .int .u8 0] 5)) W.heap.size 27 [.slice fa fn fc, .slice pa pn pc, .int .u64 ht]) := Lib.hid (Q2.out.below hB Q2.out.lt)
  clear hB B2 Q2
  have G3 : Hid (Pg (Y2.alloc (.cells #[.int .u8 2, .int .u8 (i : Int), .int .u8 0] 5)) (some ⟨Y2.heap.size, 0, none⟩) 3 3 [2, (i : Int), 0]) := Lib.hid (pg_lit3 Y2 2 (i : Int) 0 ⟨by decide, by decide⟩ HI.out ⟨by decide, by decide⟩)
  generalize (Y2.alloc (.cells #[.int .u8 2, .int .u8 (i : Int), .int .u8 0] 5)) = Y3 at B3 Q3 G3 ⊢
  generalize Y2.heap.size = g2 at G3 ⊢
  refine (HTO.out Y3 (Lib.hid (HF.out.below (B := 0) B3.out)) (Lib.hid (HP.out.below B3.out))).mono ?_
  rintro e Y4 ⟨fa2, fc2, pa2, pc2, rfl, hF, hP, hB⟩
  have F4 := Lib.hid hF
  have P4 := Lib.hid hP
  have G4 := Lib.hid (G3.out.below hB)
  clear hF hP G3
  have B4 : Hid (Below W.heap.size W Y4) := Lib.hid (B3.out.trans (hB.mono B3.out.size))
  have Q4 : Hid (Blk Y4 W.heap.size 27 [.slice fa fn fc, .slice pa pn pc, .int .u64 ht]) := Lib.hid (Q3.out.below hB Q3.out.lt)
  clear hB B3 Q3
  go_wp2_with fail
  refine (ask_load i HHI.out g2 fa2 fn fc2 pa2 pn pc2 ht fs ps Y4 G4 (Lib.hid (HT.out.keep B4.out)) F4 P4 HHH.out HF3.out HP3.out).mono ?_
  rw [HE1.out]
  rw [ret_fold]
  rintro e Y5 ⟨rfl, hB⟩
  have B5 : Hid (Below W.heap.size W Y5) := Lib.hid (B4.out.trans (hB.mono B4.out.size))
  have Q5 : Hid (Blk Y5 W.heap.size 27 [.slice fa fn fc, .slice pa pn pc, .int .u64 ht]) := Lib.hid (Q4.out.below hB Q4.out.lt)
  clear hB B4 Q4 F4 P4 G4
  have c0 := Q5.out.cell 0
  have c1 := Q5.out.cell 1
  have c2 := Q5.out.cell 2
  simp only [List.getElem?_cons_zero, List.getElem?_cons_succ] at c0 c1 c2
  have e0 : ∀ ob, (Y5.alloc ob).cell? ⟨W.heap.size, 0, none⟩ = some (.slice fa fn fc) := fun ob => by rw [World.cell?_alloc_lt _ _ _ Q5.out.lt]; exact c0
  have e1 : ∀ ob, (Y5.alloc ob).cell? ⟨W.heap.size, 1, none⟩ = some (.slice pa pn pc) := fun ob => by rw [World.cell?_alloc_lt _ _ _ Q5.out.lt]; exact c1
  have e2 : ∀ ob, (Y5.alloc ob).cell? ⟨W.heap.size, 2, none⟩ = some (.int .u64 ht) := fun ob => by rw [World.cell?_alloc_lt _ _ _ Q5.out.lt]; exact c2
  go_wp2_with fail
  clear c0 c1 c2
  clear e0 e1 e2
  have hB : Below Y5.heap.size Y5 (Y5.alloc (.cells #[.int .u8 16, .int .u8 (i : Int), .int .u8 0] 5)) := up1 Y5 _
  have B6 : Hid (Below W.heap.size W (Y5.alloc (.cells #[.int .u8 16, .int .u8 (i : Int), .int .u8 0] 5))) := Lib.hid (B5.out.trans (hB.mono B5.out.size))
  have Q6 : Hid (Blk (Y5.alloc (.cells #[.int .u8 16, .int .u8 (i : Int), .int .u8 0] 5)) W.heap.size 27 [.slice fa fn fc, .slice pa pn pc, .int .u64 ht]) := Lib.hid (Q5.out.below hB Q5.out.lt)
  clear hB B5 Q5
  have G6 : Hid (Pg (Y5.alloc (.cells #[.int .u8 16, .int .u8 (i : Int), .int .u8 0] 5)) (some ⟨Y5.heap.size, 0, none⟩) 3 3 [16, (i : Int), 0]) := Lib.hid (pg_lit3 Y5 16 (i : Int) 0 ⟨by decide, by decide⟩ HI.out ⟨by decide, by decide⟩)
  generalize (Y5.alloc (.cells #[.int .u8 16, .int .u8 (i : Int), .int .u8 0] 5)) = Y6 at B6 Q6 G6 ⊢
  generalize Y5.heap.size = g5 at G6 ⊢
  refine (HTO.out Y6 (Lib.hid (HF.out.below (B := 0) B6.out)) (Lib.hid (HP.out.below B6.out))).mono ?_
  rintro e Y7 ⟨fa5, fc5, pa5, pc5, rfl, hF, hP, hB⟩
  have F7 := Lib.hid hF
  have P7 := Lib.hid hP
  have G7 := Lib.hid (G6.out.below hB)
  clear hF hP G6
  have B7 : Hid (Below W.heap.size W Y7) := Lib.hid (B6.out.trans (hB.mono B6.out.size))
  have Q7 : Hid (Blk Y7 W.heap.size 27 [.slice fa fn fc, .slice pa pn pc, .int .u64 ht]) := Lib.hid (Q6.out.below hB Q6.out.lt)
  clear hB B6 Q6
  go_wp2_with fail
  refine (ask_paid i HHI.out g5 fa5 fn fc5 pa5 pn pc5 ht fs ps Y7 G7 (Lib.hid (HT.out.keep B7.out)) F7 P7 HHH.out HF3.out HP3.out).mono ?_
  rw [HE2.out]
  rw [ret_fold]
  rintro e Y8 ⟨rfl, hB⟩
  have B8 : Hid (Below W.heap.size W Y8) := Lib.hid (B7.out.trans (hB.mono B7.out.size))
  have Q8 : Hid (Blk Y8 W.heap.size 27 [.slice fa fn fc, .slice pa pn pc, .int .u64 ht]) := Lib.hid (Q7.out.below hB Q7.out.lt)
  clear hB B7 Q7 F7 P7 G7
  have c0 := Q8.out.cell 0
  have c1 := Q8.out.cell 1
  have c2 := Q8.out.cell 2
  simp only [List.getElem?_cons_zero, List.getElem?_cons_succ] at c0 c1 c2
  have e0 : ∀ ob, (Y8.alloc ob).cell? ⟨W.heap.size, 0, none⟩ = some (.slice fa fn fc) := fun ob => by rw [World.cell?_alloc_lt _ _ _ Q8.out.lt]; exact c0
  have e1 : ∀ ob, (Y8.alloc ob).cell? ⟨W.heap.size, 1, none⟩ = some (.slice pa pn pc) := fun ob => by rw [World.cell?_alloc_lt _ _ _ Q8.out.lt]; exact c1
  have e2 : ∀ ob, (Y8.alloc ob).cell? ⟨W.heap.size, 2, none⟩ = some (.int .u64 ht) := fun ob => by rw [World.cell?_alloc_lt _ _ _ Q8.out.lt]; exact c2
  go_wp2_with fail
  clear c0 c1 c2
  clear e0 e1 e2
  have hB : Below Y8.heap.size Y8 (Y8.alloc (.cells #[.int .u8 17, .int .u8 0] 5)) := up1 Y8 _
  have B9 : Hid (Below W.heap.size W (Y8.alloc (.cells #[.int .u8 17, .int .u8 0] 5))) := Lib.hid (B8.out.trans (hB.mono B8.out.size))
  have Q9 : Hid (Blk (Y8.alloc (.cells #[.int .u8 17, .int .u8 0] 5)) W.heap.size 27 [.slice fa fn fc, .slice pa pn pc, .int .u64 ht]) := Lib.hid (Q8.out.below hB Q8.out.lt)
  clear hB B8 Q8
  have G9 : Hid (Pg (Y8.alloc (.cells #[.int .u8 17, .int .u8 0] 5)) (some ⟨Y8.heap.size, 0, none⟩) 2 2 [17, 0]) := Lib.hid (pg_two Y8 17 0 ⟨by decide, by decide⟩ ⟨by decide, by decide⟩)
  generalize (Y8.alloc (.cells #[.int .u8 17, .int .u8 0] 5)) = Y9 at B9 Q9 G9 ⊢
  generalize Y8.heap.size = g8 at G9 ⊢
  refine (HTO.out Y9 (Lib.hid (HF.out.below (B := 0) B9.out)) (Lib.hid (HP.out.below B9.out))).mono ?_
  rintro e Y10 ⟨fa8, fc8, pa8, pc8, rfl, hF, hP, hB⟩
  have F10 := Lib.hid hF
  have P10 := Lib.hid hP
  have G10 := Lib.hid (G9.out.below hB)
  clear hF hP G9
  have B10 : Hid (Below W.heap.size W Y10) := Lib.hid (B9.out.trans (hB.mono B9.out.size))
  have Q10 : Hid (Blk Y10 W.heap.size 27 [.slice fa fn fc, .slice pa pn pc, .int .u64 ht]) := Lib.hid (Q9.out.below hB Q9.out.lt)
  clear hB B9 Q9
  go_wp2_with fail
  refine (ask_now g8 fa8 fn fc8 pa8 pn pc8 ht fs ps Y10 G10 (Lib.hid (HT.out.keep B10.out)) F10 P10 HHH.out HF3.out HP3.out).mono ?_
  rw [ret_fold]
  rintro e Y11 ⟨rfl, hB⟩
  have B11 : Hid (Below W.heap.size W Y11) := Lib.hid (B10.out.trans (hB.mono B10.out.size))
  have Q11 : Hid (Blk Y11 W.heap.size 27 [.slice fa fn fc, .slice pa pn pc, .int .u64 ht]) := Lib.hid (Q10.out.below hB Q10.out.lt)
  clear hB B10 Q10 F10 P10 G10
  have c0 := Q11.out.cell 0
  have c1 := Q11.out.cell 1
  have c2 := Q11.out.cell 2
  simp only [List.getElem?_cons_zero, List.getElem?_cons_succ] at c0 c1 c2
  go_wp2_with fail
  refine (awake_any Y11 (Lib.hid (HM.out.below B11.out)) (Lib.hid (HT.out.keep B11.out)) (Lib.hid (PTab.below HPT.out B11.out))).mono ?_
  rintro e Y12 ⟨rfl, hB⟩
  have B12 : Hid (Below W.heap.size W Y12) := Lib.hid (B11.out.trans (hB.mono B11.out.size))
  have Q12 : Hid (Blk Y12 W.heap.size 27 [.slice fa fn fc, .slice pa pn pc, .int .u64 ht]) := Lib.hid (Q11.out.below hB Q11.out.lt)
  clear hB B11 Q11
  clear c0 c1 c2
  have c0 := Q12.out.cell 0
  have c1 := Q12.out.cell 1
  have c2 := Q12.out.cell 2
  simp only [List.getElem?_cons_zero, List.getElem?_cons_succ] at c0 c1 c2
  go_wp2
  go_ret
  exact ⟨rfl, B12.out⟩

set_option maxRecDepth 100000 in
set_option maxHeartbeats 4000000 in
theorem asks_nt (fa : Option Addr) (fn fc : Nat) (pa : Option Addr) (pn pc : Nat) (ht : Int) (fs : List Int) (ps : List Bool) (i : Nat) (W : World) (HM : Hid (MCell W)) (HT : Hid (KTab W)) (HPT : Hid (PTab W)) (HF : Hid (FRow W fa fn fs)) (HP : Hid (BRow W pa pn ps)) (hh : Word ht) (hf : fn ≤ maxLen) (hp : pn ≤ maxLen) (hi : i < 256) (hl : lightB fn pn = true) (h1 : fn ≤ i) (h2 : i < pn) (h3 : ps.getD i false = true) :
    Calls Tryd.prog 7 #[wldV fa fn fc pa pn pc ht, .int .u8 (i : Int)] W fun e W1 => e = .returned (.bool true) ∧ Below W.heap.size W W1 := by
  have HL := Lib.hid (fun w => light_any fa fn fc pa pn pc ht w hf hp)
  rw [hl] at HL
  obtain ⟨hf3, hp3⟩ := light_yes hl
  have HF3 := Lib.hid hf3
  have HP3 := Lib.hid hp3
  have HHI := Lib.hid hi
  have HHH := Lib.hid hh
  have i0 : (0 : Int) ≤ (i : Int) := Int.natCast_nonneg _
  have i1 : (i : Int) < 256 := by omega
  have HI : Hid ((0 : Int) ≤ (i : Int) ∧ (i : Int) < 256) := Lib.hid ⟨i0, i1⟩
  have HTO := Lib.hid (fun w hF hP => to_any fa fn fc pa pn pc ht fs ps w hF hP hf3 hp3)
  have d1 : ¬ ((i : Int) < (fn : Int)) := by omega
  have d2 : (i : Int) < (pn : Int) := by omega
  have hfl := HF.out.len
  have hpl := HP.out.len
  obtain ⟨x, hx⟩ : ∃ x, fs.getD i 0 = x := ⟨_, rfl⟩
  have HE1 : Hid ((if fs.length ≤ i then ((0 : Int), 1, (1 : Int)) else (fs.getD i 0, 2, 0)) = (0, 1, 1)) := Lib.hid (by rw [if_pos (by omega)])
  have HE2 : Hid ((if ps.length ≤ i then ((0 : Int), 10, (1 : Int)) else (one01 (ps.getD i false), 11, 0)) = (1, 11, 0)) := Lib.hid (by rw [if_neg (by omega)]; rw [h3]; rfl)
  obtain ⟨bp, ofp, hpa, hbp, hcp⟩ := HP.out.at_ i (by omega)
  subst hpa
  rw [h3] at hcp
  have HCP := Lib.hid hcp
  have HBP := Lib.hid hbp
  clear hcp hbp
  clear hx hl hf hp h1 h2 hfl hpl hf3 hp3 hi hh h3
  unfold wldV at HL HTO ⊢
  go_enter Tryd.func7, Tryd.ntmps7
  go_upto_region 1 with fail
  have B1 : Hid (Below W.heap.size W (W.alloc (.cells #[.slice fa fn fc, .slice (some ⟨bp, ofp, none⟩) pn pc, .int .u64 ht] 27))) := Lib.hid (up1 W _)
  have Q1 : Hid (Blk (W.alloc (.cells #[.slice fa fn fc, .slice (some ⟨bp, ofp, none⟩) pn pc, .int .u64 ht] 27)) W.heap.size 27 [.slice fa fn fc, .slice (some ⟨bp, ofp, none⟩) pn pc, .int .u64 ht]) := Lib.hid (Blk.new W 27 [.slice fa fn fc, .slice (some ⟨bp, ofp, none⟩) pn pc, .int .u64 ht])
  generalize W.alloc (.cells #[.slice fa fn fc, .slice (some ⟨bp, ofp, none⟩) pn pc, .int .u64 ht] 27) = Y1 at B1 Q1 ⊢
  have c0 := Q1.out.cell 0
  have c1 := Q1.out.cell 1
  have c2 := Q1.out.cell 2
  simp only [List.getElem?_cons_zero, List.getElem?_cons_succ] at c0 c1 c2
  go_wp2_with fail
  clear c0 c1 c2
  refine (HL.out _).mono ?_
  rintro e Y2 ⟨rfl, hB⟩
  have B2 : Hid (Below W.heap.size W Y2) := Lib.hid (B1.out.trans (hB.mono B1.out.size))
  have Q2 : Hid (Blk Y2 W.heap.size 27 [.slice fa fn fc, .slice (some ⟨bp, ofp, none⟩) pn pc, .int .u64 ht]) := Lib.hid (Q1.out.below hB Q1.out.lt)
  clear hB B1 Q1
  have c0 := Q2.out.cell 0
  have c1 := Q2.out.cell 1
  have c2 := Q2.out.cell 2
  simp only [List.getElem?_cons_zero, List.getElem?_cons_succ] at c0 c1 c2
  have e0 : ∀ ob, (Y2.alloc ob).cell? ⟨W.heap.size, 0, none⟩ = some (.slice fa fn fc) := fun ob => by rw [World.cell?_alloc_lt _ _ _ Q2.out.lt]; exact c0
  have e1 : ∀ ob, (Y2.alloc ob).cell? ⟨W.heap.size, 1, none⟩ = some (.slice (some ⟨bp, ofp, none⟩) pn pc) := fun ob => by rw [World.cell?_alloc_lt _ _ _ Q2.out.lt]; exact c1
  have e2 : ∀ ob, (Y2.alloc ob).cell? ⟨W.heap.size, 2, none⟩ = some (.int .u64 ht) := fun ob => by rw [World.cell?_alloc_lt _ _ _ Q2.out.lt]; exact c2
  go_wp2_with fail
  clear c0 c1 c2
  clear e0 e1 e2
  have hB : Below Y2.heap.size Y2 (Y2.alloc (.cells #[.int .u8 2, .int .u8 (i : Int), .int .u8 0] 5)) := up1 Y2 _
  have B3 : Hid (Below W.heap.size W (Y2.alloc (.cells #[.int .u8 2, .int .u8 (i : Int), .int .u8 0] 5))) := Lib.hid (B2.out.trans (hB.mono B2.out.size))
  have Q3 : Hid (Blk (Y2.alloc (.cells #[.int .u8 2, .int .u8 (i : Int), .int .u8 0] 5)) W.heap.size 27 [.slice fa fn fc, .slice (some ⟨bp, ofp, none⟩) pn pc, .int .u64 ht]) := Lib.hid (Q2.out.below hB Q2.out.lt)
  clear hB B2 Q2
  have G3 : Hid (Pg (Y2.alloc (.cells #[.int .u8 2, .int .u8 (i : Int), .int .u8 0] 5)) (some ⟨Y2.heap.size, 0, none⟩) 3 3 [2, (i : Int), 0]) := Lib.hid (pg_lit3 Y2 2 (i : Int) 0 ⟨by decide, by decide⟩ HI.out ⟨by decide, by decide⟩)
  generalize (Y2.alloc (.cells #[.int .u8 2, .int .u8 (i : Int), .int .u8 0] 5)) = Y3 at B3 Q3 G3 ⊢
  generalize Y2.heap.size = g2 at G3 ⊢
  refine (HTO.out Y3 (Lib.hid (HF.out.below (B := 0) B3.out)) (Lib.hid (HP.out.below B3.out))).mono ?_
  rintro e Y4 ⟨fa2, fc2, pa2, pc2, rfl, hF, hP, hB⟩
  have F4 := Lib.hid hF
  have P4 := Lib.hid hP
  have G4 := Lib.hid (G3.out.below hB)
  clear hF hP G3
  have B4 : Hid (Below W.heap.size W Y4) := Lib.hid (B3.out.trans (hB.mono B3.out.size))
  have Q4 : Hid (Blk Y4 W.heap.size 27 [.slice fa fn fc, .slice (some ⟨bp, ofp, none⟩) pn pc, .int .u64 ht]) := Lib.hid (Q3.out.below hB Q3.out.lt)
  clear hB B3 Q3
  go_wp2_with fail
  refine (ask_load i HHI.out g2 fa2 fn fc2 pa2 pn pc2 ht fs ps Y4 G4 (Lib.hid (HT.out.keep B4.out)) F4 P4 HHH.out HF3.out HP3.out).mono ?_
  rw [HE1.out]
  rw [ret_fold]
  rintro e Y5 ⟨rfl, hB⟩
  have B5 : Hid (Below W.heap.size W Y5) := Lib.hid (B4.out.trans (hB.mono B4.out.size))
  have Q5 : Hid (Blk Y5 W.heap.size 27 [.slice fa fn fc, .slice (some ⟨bp, ofp, none⟩) pn pc, .int .u64 ht]) := Lib.hid (Q4.out.below hB Q4.out.lt)
  clear hB B4 Q4 F4 P4 G4
  have c0 := Q5.out.cell 0
  have c1 := Q5.out.cell 1
  have c2 := Q5.out.cell 2
  simp only [List.getElem?_cons_zero, List.getElem?_cons_succ] at c0 c1 c2
  have e0 : ∀ ob, (Y5.alloc ob).cell? ⟨W.heap.size, 0, none⟩ = some (.slice fa fn fc) := fun ob => by rw [World.cell?_alloc_lt _ _ _ Q5.out.lt]; exact c0
  have e1 : ∀ ob, (Y5.alloc ob).cell? ⟨W.heap.size, 1, none⟩ = some (.slice (some ⟨bp, ofp, none⟩) pn pc) := fun ob => by rw [World.cell?_alloc_lt _ _ _ Q5.out.lt]; exact c1
  have e2 : ∀ ob, (Y5.alloc ob).cell? ⟨W.heap.size, 2, none⟩ = some (.int .u64 ht) := fun ob => by rw [World.cell?_alloc_lt _ _ _ Q5.out.lt]; exact c2
  go_wp2_with fail
  clear c0 c1 c2
  clear e0 e1 e2
  have hB : Below Y5.heap.size Y5 (Y5.alloc (.cells #[.int .u8 16, .int .u8 (i : Int), .int .u8 0] 5)) := up1 Y5 _
  have B6 : Hid (Below W.heap.size W (Y5.alloc (.cells #[.int .u8 16, .int .u8 (i : Int), .int .u8 0] 5))) := Lib.hid (B5.out.trans (hB.mono B5.out.size))
  have Q6 : Hid (Blk (Y5.alloc (.cells #[.int .u8 16, .int .u8 (i : Int), .int .u8 0] 5)) W.heap.size 27 [.slice fa fn fc, .slice (some ⟨bp, ofp, none⟩) pn pc, .int .u64 ht]) := Lib.hid (Q5.out.below hB Q5.out.lt)
  clear hB B5 Q5
  have G6 : Hid (Pg (Y5.alloc (.cells #[.int .u8 16, .int .u8 (i : Int), .int .u8 0] 5)) (some ⟨Y5.heap.size, 0, none⟩) 3 3 [16, (i : Int), 0]) := Lib.hid (pg_lit3 Y5 16 (i : Int) 0 ⟨by decide, by decide⟩ HI.out ⟨by decide, by decide⟩)
  generalize (Y5.alloc (.cells #[.int .u8 16, .int .u8 (i : Int), .int .u8 0] 5)) = Y6 at B6 Q6 G6 ⊢
  generalize Y5.heap.size = g5 at G6 ⊢
  refine (HTO.out Y6 (Lib.hid (HF.out.below (B := 0) B6.out)) (Lib.hid (HP.out.below B6.out))).mono ?_
  rintro e Y7 ⟨fa5, fc5, pa5, pc5, rfl, hF, hP, hB⟩
  have F7 := Lib.hid hF
  have P7 := Lib.hid hP
  have G7 := Lib.hid (G6.out.below hB)
  clear hF hP G6
  have B7 : Hid (Below W.heap.size W Y7) := Lib.hid (B6.out.trans (hB.mono B6.out.size))
  have Q7 : Hid (Blk Y7 W.heap.size 27 [.slice fa fn fc, .slice (some ⟨bp, ofp, none⟩) pn pc, .int .u64 ht]) := Lib.hid (Q6.out.below hB Q6.out.lt)
  clear hB B6 Q6
  go_wp2_with fail
  refine (ask_paid i HHI.out g5 fa5 fn fc5 pa5 pn pc5 ht fs ps Y7 G7 (Lib.hid (HT.out.keep B7.out)) F7 P7 HHH.out HF3.out HP3.out).mono ?_
  rw [HE2.out]
  rw [ret_fold]
  rintro e Y8 ⟨rfl, hB⟩
  have B8 : Hid (Below W.heap.size W Y8) := Lib.hid (B7.out.trans (hB.mono B7.out.size))
  have Q8 : Hid (Blk Y8 W.heap.size 27 [.slice fa fn fc, .slice (some ⟨bp, ofp, none⟩) pn pc, .int .u64 ht]) := Lib.hid (Q7.out.below hB Q7.out.lt)
  clear hB B7 Q7 F7 P7 G7
  have cy := (B8.out.cell (p := ⟨bp, ofp + i, none⟩) HBP.out).trans HCP.out
  have c0 := Q8.out.cell 0
  have c1 := Q8.out.cell 1
  have c2 := Q8.out.cell 2
  simp only [List.getElem?_cons_zero, List.getElem?_cons_succ] at c0 c1 c2
  have e0 : ∀ ob, (Y8.alloc ob).cell? ⟨W.heap.size, 0, none⟩ = some (.slice fa fn fc) := fun ob => by rw [World.cell?_alloc_lt _ _ _ Q8.out.lt]; exact c0
  have e1 : ∀ ob, (Y8.alloc ob).cell? ⟨W.heap.size, 1, none⟩ = some (.slice (some ⟨bp, ofp, none⟩) pn pc) := fun ob => by rw [World.cell?_alloc_lt _ _ _ Q8.out.lt]; exact c1
  have e2 : ∀ ob, (Y8.alloc ob).cell? ⟨W.heap.size, 2, none⟩ = some (.int .u64 ht) := fun ob => by rw [World.cell?_alloc_lt _ _ _ Q8.out.lt]; exact c2
  go_wp2_with fail
  clear c0 c1 c2
  clear e0 e1 e2
  have hB : Below Y8.heap.size Y8 (Y8.alloc (.cells #[.int .u8 17, .int .u8 0] 5)) := up1 Y8 _
  have B9 : Hid (Below W.heap.size W (Y8.alloc (.cells #[.int .u8 17, .int .u8 0] 5))) := Lib.hid (B8.out.trans (hB.mono B8.out.size))
  have Q9 : Hid (Blk (Y8.alloc (.cells #[.int .u8 17, .int .u8 0] 5)) W.heap.size 27 [.slice fa fn fc, .slice (some ⟨bp, ofp, none⟩) pn pc, .int .u64 ht]) := Lib.hid (Q8.out.below hB Q8.out.lt)
  clear hB B8 Q8
  have G9 : Hid (Pg (Y8.alloc (.cells #[.int .u8 17, .int .u8 0] 5)) (some ⟨Y8.heap.size, 0, none⟩) 2 2 [17, 0]) := Lib.hid (pg_two Y8 17 0 ⟨by decide, by decide⟩ ⟨by decide, by decide⟩)
  generalize (Y8.alloc (.cells #[.int .u8 17, .int .u8 0] 5)) = Y9 at B9 Q9 G9 ⊢
  generalize Y8.heap.size = g8 at G9 ⊢
  refine (HTO.out Y9 (Lib.hid (HF.out.below (B := 0) B9.out)) (Lib.hid (HP.out.below B9.out))).mono ?_
  rintro e Y10 ⟨fa8, fc8, pa8, pc8, rfl, hF, hP, hB⟩
  have F10 := Lib.hid hF
  have P10 := Lib.hid hP
  have G10 := Lib.hid (G9.out.below hB)
  clear hF hP G9
  have B10 : Hid (Below W.heap.size W Y10) := Lib.hid (B9.out.trans (hB.mono B9.out.size))
  have Q10 : Hid (Blk Y10 W.heap.size 27 [.slice fa fn fc, .slice (some ⟨bp, ofp, none⟩) pn pc, .int .u64 ht]) := Lib.hid (Q9.out.below hB Q9.out.lt)
  clear hB B9 Q9
  go_wp2_with fail
  refine (ask_now g8 fa8 fn fc8 pa8 pn pc8 ht fs ps Y10 G10 (Lib.hid (HT.out.keep B10.out)) F10 P10 HHH.out HF3.out HP3.out).mono ?_
  rw [ret_fold]
  rintro e Y11 ⟨rfl, hB⟩
  have B11 : Hid (Below W.heap.size W Y11) := Lib.hid (B10.out.trans (hB.mono B10.out.size))
  have Q11 : Hid (Blk Y11 W.heap.size 27 [.slice fa fn fc, .slice (some ⟨bp, ofp, none⟩) pn pc, .int .u64 ht]) := Lib.hid (Q10.out.below hB Q10.out.lt)
  clear hB B10 Q10 F10 P10 G10
  have c0 := Q11.out.cell 0
  have c1 := Q11.out.cell 1
  have c2 := Q11.out.cell 2
  simp only [List.getElem?_cons_zero, List.getElem?_cons_succ] at c0 c1 c2
  go_wp2_with fail
  refine (awake_any Y11 (Lib.hid (HM.out.below B11.out)) (Lib.hid (HT.out.keep B11.out)) (Lib.hid (PTab.below HPT.out B11.out))).mono ?_
  rintro e Y12 ⟨rfl, hB⟩
  have B12 : Hid (Below W.heap.size W Y12) := Lib.hid (B11.out.trans (hB.mono B11.out.size))
  have Q12 : Hid (Blk Y12 W.heap.size 27 [.slice fa fn fc, .slice (some ⟨bp, ofp, none⟩) pn pc, .int .u64 ht]) := Lib.hid (Q11.out.below hB Q11.out.lt)
  clear hB B11 Q11
  clear c0 c1 c2
  have c0 := Q12.out.cell 0
  have c1 := Q12.out.cell 1
  have c2 := Q12.out.cell 2
  simp only [List.getElem?_cons_zero, List.getElem?_cons_succ] at c0 c1 c2
  go_wp2
  go_ret
  exact ⟨rfl, B12.out⟩

set_option maxRecDepth 100000 in
set_option maxHeartbeats 4000000 in
theorem asks_nf (fa : Option Addr) (fn fc : Nat) (pa : Option Addr) (pn pc : Nat) (ht : Int) (fs : List Int) (ps : List Bool) (i : Nat) (W : World) (HM : Hid (MCell W)) (HT : Hid (KTab W)) (HPT : Hid (PTab W)) (HF : Hid (FRow W fa fn fs)) (HP : Hid (BRow W pa pn ps)) (hh : Word ht) (hf : fn ≤ maxLen) (hp : pn ≤ maxLen) (hi : i < 256) (hl : lightB fn pn = true) (h1 : fn ≤ i) (h2 : i < pn) (h3 : ps.getD i false = false) :
    Calls Tryd.prog 7 #[wldV fa fn fc pa pn pc ht, .int .u8 (i : Int)] W fun e W1 => e = .returned (.bool true) ∧ Below W.heap.size W W1 := by
  have HL := Lib.hid (fun w => light_any fa fn fc pa pn pc ht w hf hp)
  rw [hl] at HL
  obtain ⟨hf3, hp3⟩ := light_yes hl
  have HF3 := Lib.hid hf3
  have HP3 := Lib.hid hp3
  have HHI := Lib.hid hi
  have HHH := Lib.hid hh
  have i0 : (0 : Int) ≤ (i : Int) := Int.natCast_nonneg _
  have i1 : (i : Int) < 256 := by omega
  have HI : Hid ((0 : Int) ≤ (i : Int) ∧ (i : Int) < 256) := Lib.hid ⟨i0, i1⟩
  have HTO := Lib.hid (fun w hF hP => to_any fa fn fc pa pn pc ht fs ps w hF hP hf3 hp3)
  have d1 : ¬ ((i : Int) < (fn : Int)) := by omega
  have d2 : (i : Int) < (pn : Int) := by omega
  have hfl := HF.out.len
  have hpl := HP.out.len
  obtain ⟨x, hx⟩ : ∃ x, fs.getD i 0 = x := ⟨_, rfl⟩
  have HE1 : Hid ((if fs.length ≤ i then ((0 : Int), 1, (1 : Int)) else (fs.getD i 0, 2, 0)) = (0, 1, 1)) := Lib.hid (by rw [if_pos (by omega)])
  have HE2 : Hid ((if ps.length ≤ i then ((0 : Int), 10, (1 : Int)) else (one01 (ps.getD i false), 11, 0)) = (0, 11, 0)) := Lib.hid (by rw [if_neg (by omega)]; rw [h3]; rfl)
  obtain ⟨bp, ofp, hpa, hbp, hcp⟩ := HP.out.at_ i (by omega)
  subst hpa
  rw [h3] at hcp
  have HCP := Lib.hid hcp
  have HBP := Lib.hid hbp
  clear hcp hbp
  clear hx hl hf hp h1 h2 hfl hpl hf3 hp3 hi hh h3
  unfold wldV at HL HTO ⊢
  go_enter Tryd.func7, Tryd.ntmps7
  go_upto_region 1 with fail
  have B1 : Hid (Below W.heap.size W (W.alloc (.cells #[.slice fa fn fc, .slice (some ⟨bp, ofp, none⟩) pn pc, .int .u64 ht] 27))) := Lib.hid (up1 W _)
  have Q1 : Hid (Blk (W.alloc (.cells #[.slice fa fn fc, .slice (some ⟨bp, ofp, none⟩) pn pc, .int .u64 ht] 27)) W.heap.size 27 [.slice fa fn fc, .slice (some ⟨bp, ofp, none⟩) pn pc, .int .u64 ht]) := Lib.hid (Blk.new W 27 [.slice fa fn fc, .slice (some ⟨bp, ofp, none⟩) pn pc, .int .u64 ht])
  generalize W.alloc (.cells #[.slice fa fn fc, .slice (some ⟨bp, ofp, none⟩) pn pc, .int .u64 ht] 27) = Y1 at B1 Q1 ⊢
  have c0 := Q1.out.cell 0
  have c1 := Q1.out.cell 1
  have c2 := Q1.out.cell 2
  simp only [List.getElem?_cons_zero, List.getElem?_cons_succ] at c0 c1 c2
  go_wp2_with fail
  clear c0 c1 c2
  refine (HL.out _).mono ?_
  rintro e Y2 ⟨rfl, hB⟩
  have B2 : Hid (Below W.heap.size W Y2) := Lib.hid (B1.out.trans (hB.mono B1.out.size))
  have Q2 : Hid (Blk Y2 W.heap.size 27 [.slice fa fn fc, .slice (some ⟨bp, ofp, none⟩) pn pc, .int .u64 ht]) := Lib.hid (Q1.out.below hB Q1.out.lt)
  clear hB B1 Q1
  have c0 := Q2.out.cell 0
  have c1 := Q2.out.cell 1
  have c2 := Q2.out.cell 2
  simp only [List.getElem?_cons_zero, List.getElem?_cons_succ] at c0 c1 c2
  have e0 : ∀ ob, (Y2.alloc ob).cell? ⟨W.heap.size, 0, none⟩ = some (.slice fa fn fc) := fun ob => by rw [World.cell?_alloc_lt _ _ _ Q2.out.lt]; exact c0
  have e1 : ∀ ob, (Y2.alloc ob).cell? ⟨W.heap.size, 1, none⟩ = some (.slice (some ⟨bp, ofp, none⟩) pn pc) := fun ob => by rw [World.cell?_alloc_lt _ _ _ Q2.out.lt]; exact c1
  have e2 : ∀ ob, (Y2.alloc ob).cell? ⟨W.heap.size, 2, none⟩ = some (.int .u64 ht) := fun ob => by rw [World.cell?_alloc_lt _ _ _ Q2.out.lt]; exact c2
  go_wp2_with fail
  clear c0 c1 c2
  clear e0 e1 e2
  have hB : Below Y2.heap.size Y2 (Y2.alloc (.cells #[.int .u8 2, .int .u8 (i : Int), .int .u8 0] 5)) := up1 Y2 _
  have B3 : Hid (Below W.heap.size W (Y2.alloc (.cells #[.int .u8 2, .int .u8 (i : Int), .int .u8 0] 5))) := Lib.hid (B2.out.trans (hB.mono B2.out.size))
  have Q3 : Hid (Blk (Y2.alloc (.cells #[.int .u8 2, .int .u8 (i : Int), .int .u8 0] 5)) W.heap.size 27 [.slice fa fn fc, .slice (some ⟨bp, ofp, none⟩) pn pc, .int .u64 ht]) := Lib.hid (Q2.out.below hB Q2.out.lt)
  clear hB B2 Q2
  have G3 : Hid (Pg (Y2.alloc (.cells #[.int .u8 2, .int .u8 (i : Int), .int .u8 0] 5)) (some ⟨Y2.heap.size, 0, none⟩) 3 3 [2, (i : Int), 0]) := Lib.hid (pg_lit3 Y2 2 (i : Int) 0 ⟨by decide, by decide⟩ HI.out ⟨by decide, by decide⟩)
  generalize (Y2.alloc (.cells #[.int .u8 2, .int .u8 (i : Int), .int .u8 0] 5)) = Y3 at B3 Q3 G3 ⊢
  generalize Y2.heap.size = g2 at G3 ⊢
  refine (HTO.out Y3 (Lib.hid (HF.out.below (B := 0) B3.out)) (Lib.hid (HP.out.below B3.out))).mono ?_
  rintro e Y4 ⟨fa2, fc2, pa2, pc2, rfl, hF, hP, hB⟩
  have F4 := Lib.hid hF
  have P4 := Lib.hid hP
  have G4 := Lib.hid (G3.out.below hB)
  clear hF hP G3
  have B4 : Hid (Below W.heap.size W Y4) := Lib.hid (B3.out.trans (hB.mono B3.out.size))
  have Q4 : Hid (Blk Y4 W.heap.size 27 [.slice fa fn fc, .slice (some ⟨bp, ofp, none⟩) pn pc, .int .u64 ht]) := Lib.hid (Q3.out.below hB Q3.out.lt)
  clear hB B3 Q3
  go_wp2_with fail
  refine (ask_load i HHI.out g2 fa2 fn fc2 pa2 pn pc2 ht fs ps Y4 G4 (Lib.hid (HT.out.keep B4.out)) F4 P4 HHH.out HF3.out HP3.out).mono ?_
  rw [HE1.out]
  rw [ret_fold]
  rintro e Y5 ⟨rfl, hB⟩
  have B5 : Hid (Below W.heap.size W Y5) := Lib.hid (B4.out.trans (hB.mono B4.out.size))
  have Q5 : Hid (Blk Y5 W.heap.size 27 [.slice fa fn fc, .slice (some ⟨bp, ofp, none⟩) pn pc, .int .u64 ht]) := Lib.hid (Q4.out.below hB Q4.out.lt)
  clear hB B4 Q4 F4 P4 G4
  have c0 := Q5.out.cell 0
  have c1 := Q5.out.cell 1
  have c2 := Q5.out.cell 2
  simp only [List.getElem?_cons_zero, List.getElem?_cons_succ] at c0 c1 c2
  have e0 : ∀ ob, (Y5.alloc ob).cell? ⟨W.heap.size, 0, none⟩ = some (.slice fa fn fc) := fun ob => by rw [World.cell?_alloc_lt _ _ _ Q5.out.lt]; exact c0
  have e1 : ∀ ob, (Y5.alloc ob).cell? ⟨W.heap.size, 1, none⟩ = some (.slice (some ⟨bp, ofp, none⟩) pn pc) := fun ob => by rw [World.cell?_alloc_lt _ _ _ Q5.out.lt]; exact c1
  have e2 : ∀ ob, (Y5.alloc ob).cell? ⟨W.heap.size, 2, none⟩ = some (.int .u64 ht) := fun ob => by rw [World.cell?_alloc_lt _ _ _ Q5.out.lt]; exact c2
  go_wp2_with fail
  clear c0 c1 c2
  clear e0 e1 e2
  have hB : Below Y5.heap.size Y5 (Y5.alloc (.cells #[.int .u8 16, .int .u8 (i : Int), .int .u8 0] 5)) := up1 Y5 _
  have B6 : Hid (Below W.heap.size W (Y5.alloc (.cells #[.int .u8 16, .int .u8 (i : Int), .int .u8 0] 5))) := Lib.hid (B5.out.trans (hB.mono B5.out.size))
  have Q6 : Hid (Blk (Y5.alloc (.cells #[.int .u8 16, .int .u8 (i : Int), .int .u8 0] 5)) W.heap.size 27 [.slice fa fn fc, .slice (some ⟨bp, ofp, none⟩) pn pc, .int .u64 ht]) := Lib.hid (Q5.out.below hB Q5.out.lt)
  clear hB B5 Q5
  have G6 : Hid (Pg (Y5.alloc (.cells #[.int .u8 16, .int .u8 (i : Int), .int .u8 0] 5)) (some ⟨Y5.heap.size, 0, none⟩) 3 3 [16, (i : Int), 0]) := Lib.hid (pg_lit3 Y5 16 (i : Int) 0 ⟨by decide, by decide⟩ HI.out ⟨by decide, by decide⟩)
  generalize (Y5.alloc (.cells #[.int .u8 16, .int .u8 (i : Int), .int .u8 0] 5)) = Y6 at B6 Q6 G6 ⊢
  generalize Y5.heap.size = g5 at G6 ⊢
  refine (HTO.out Y6 (Lib.hid (HF.out.below (B := 0) B6.out)) (Lib.hid (HP.out.below B6.out))).mono ?_
  rintro e Y7 ⟨fa5, fc5, pa5, pc5, rfl, hF, hP, hB⟩
  have F7 := Lib.hid hF
  have P7 := Lib.hid hP
  have G7 := Lib.hid (G6.out.below hB)
  clear hF hP G6
  have B7 : Hid (Below W.heap.size W Y7) := Lib.hid (B6.out.trans (hB.mono B6.out.size))
  have Q7 : Hid (Blk Y7 W.heap.size 27 [.slice fa fn fc, .slice (some ⟨bp, ofp, none⟩) pn pc, .int .u64 ht]) := Lib.hid (Q6.out.below hB Q6.out.lt)
  clear hB B6 Q6
  go_wp2_with fail
  refine (ask_paid i HHI.out g5 fa5 fn fc5 pa5 pn pc5 ht fs ps Y7 G7 (Lib.hid (HT.out.keep B7.out)) F7 P7 HHH.out HF3.out HP3.out).mono ?_
  rw [HE2.out]
  rw [ret_fold]
  rintro e Y8 ⟨rfl, hB⟩
  have B8 : Hid (Below W.heap.size W Y8) := Lib.hid (B7.out.trans (hB.mono B7.out.size))
  have Q8 : Hid (Blk Y8 W.heap.size 27 [.slice fa fn fc, .slice (some ⟨bp, ofp, none⟩) pn pc, .int .u64 ht]) := Lib.hid (Q7.out.below hB Q7.out.lt)
  clear hB B7 Q7 F7 P7 G7
  have cy := (B8.out.cell (p := ⟨bp, ofp + i, none⟩) HBP.out).trans HCP.out
  have c0 := Q8.out.cell 0
  have c1 := Q8.out.cell 1
  have c2 := Q8.out.cell 2
  simp only [List.getElem?_cons_zero, List.getElem?_cons_succ] at c0 c1 c2
  have e0 : ∀ ob, (Y8.alloc ob).cell? ⟨W.heap.size, 0, none⟩ = some (.slice fa fn fc) := fun ob => by rw [World.cell?_alloc_lt _ _ _ Q8.out.lt]; exact c0
  have e1 : ∀ ob, (Y8.alloc ob).cell? ⟨W.heap.size, 1, none⟩ = some (.slice (some ⟨bp, ofp, none⟩) pn pc) := fun ob => by rw [World.cell?_alloc_lt _ _ _ Q8.out.lt]; exact c1
  have e2 : ∀ ob, (Y8.alloc ob).cell? ⟨W.heap.size, 2, none⟩ = some (.int .u64 ht) := fun ob => by rw [World.cell?_alloc_lt _ _ _ Q8.out.lt]; exact c2
  go_wp2_with fail
  clear c0 c1 c2
  clear e0 e1 e2
  have hB : Below Y8.heap.size Y8 (Y8.alloc (.cells #[.int .u8 17, .int .u8 0] 5)) := up1 Y8 _
  have B9 : Hid (Below W.heap.size W (Y8.alloc (.cells #[.int .u8 17, .int .u8 0] 5))) := Lib.hid (B8.out.trans (hB.mono B8.out.size))
  have Q9 : Hid (Blk (Y8.alloc (.cells #[.int .u8 17, .int .u8 0] 5)) W.heap.size 27 [.slice fa fn fc, .slice (some ⟨bp, ofp, none⟩) pn pc, .int .u64 ht]) := Lib.hid (Q8.out.below hB Q8.out.lt)
  clear hB B8 Q8
  have G9 : Hid (Pg (Y8.alloc (.cells #[.int .u8 17, .int .u8 0] 5)) (some ⟨Y8.heap.size, 0, none⟩) 2 2 [17, 0]) := Lib.hid (pg_two Y8 17 0 ⟨by decide, by decide⟩ ⟨by decide, by decide⟩)
  generalize (Y8.alloc (.cells #[.int .u8 17, .int .u8 0] 5)) = Y9 at B9 Q9 G9 ⊢
  generalize Y8.heap.size = g8 at G9 ⊢
  refine (HTO.out Y9 (Lib.hid (HF.out.below (B := 0) B9.out)) (Lib.hid (HP.out.below B9.out))).mono ?_
  rintro e Y10 ⟨fa8, fc8, pa8, pc8, rfl, hF, hP, hB⟩
  have F10 := Lib.hid hF
  have P10 := Lib.hid hP
  have G10 := Lib.hid (G9.out.below hB)
  clear hF hP G9
  have B10 : Hid (Below W.heap.size W Y10) := Lib.hid (B9.out.trans (hB.mono B9.out.size))
  have Q10 : Hid (Blk Y10 W.heap.size 27 [.slice fa fn fc, .slice (some ⟨bp, ofp, none⟩) pn pc, .int .u64 ht]) := Lib.hid (Q9.out.below hB Q9.out.lt)
  clear hB B9 Q9
  go_wp2_with fail
  refine (ask_now g8 fa8 fn fc8 pa8 pn pc8 ht fs ps Y10 G10 (Lib.hid (HT.out.keep B10.out)) F10 P10 HHH.out HF3.out HP3.out).mono ?_
  rw [ret_fold]
  rintro e Y11 ⟨rfl, hB⟩
  have B11 : Hid (Below W.heap.size W Y11) := Lib.hid (B10.out.trans (hB.mono B10.out.size))
  have Q11 : Hid (Blk Y11 W.heap.size 27 [.slice fa fn fc, .slice (some ⟨bp, ofp, none⟩) pn pc, .int .u64 ht]) := Lib.hid (Q10.out.below hB Q10.out.lt)
  clear hB B10 Q10 F10 P10 G10
  have c0 := Q11.out.cell 0
  have c1 := Q11.out.cell 1
  have c2 := Q11.out.cell 2
  simp only [List.getElem?_cons_zero, List.getElem?_cons_succ] at c0 c1 c2
  go_wp2_with fail
  refine (awake_any Y11 (Lib.hid (HM.out.below B11.out)) (Lib.hid (HT.out.keep B11.out)) (Lib.hid (PTab.below HPT.out B11.out))).mono ?_
  rintro e Y12 ⟨rfl, hB⟩
  have B12 : Hid (Below W.heap.size W Y12) := Lib.hid (B11.out.trans (hB.mono B11.out.size))
  have Q12 : Hid (Blk Y12 W.heap.size 27 [.slice fa fn fc, .slice (some ⟨bp, ofp, none⟩) pn pc, .int .u64 ht]) := Lib.hid (Q11.out.below hB Q11.out.lt)
  clear hB B11 Q11
  clear c0 c1 c2
  have c0 := Q12.out.cell 0
  have c1 := Q12.out.cell 1
  have c2 := Q12.out.cell 2
  simp only [List.getElem?_cons_zero, List.getElem?_cons_succ] at c0 c1 c2
  go_wp2
  go_ret
  exact ⟨rfl, B12.out⟩

theorem codeAsks_walk (fa : Option Addr) (fn fc : Nat) (pa : Option Addr) (pn pc : Nat) (ht : Int) (fs : List Int) (ps : List Bool) (i : Nat) (W : World) (HM : Hid (MCell W)) (HT : Hid (KTab W)) (HPT : Hid (PTab W)) (HF : Hid (FRow W fa fn fs)) (HP : Hid (BRow W pa pn ps)) (hh : Word ht) (hf : fn ≤ maxLen) (hp : pn ≤ maxLen) (hi : i < 256) :
    Calls Tryd.prog 7 #[wldV fa fn fc pa pn pc ht, .int .u8 (i : Int)] W fun e W1 => e = .returned (.bool true) ∧ Below W.heap.size W W1 := by
  cases hl : lightB fn pn with
  | false => exact asks_dark fa fn fc pa pn pc ht fs ps i W HM HT HPT HF HP hh hf hp hi hl
  | true =>
    by_cases h1 : i < fn
    · by_cases h2 : i < pn
      · cases h3 : ps.getD i false with
        | true => exact asks_yt fa fn fc pa pn pc ht fs ps i W HM HT HPT HF HP hh hf hp hi hl h1 h2 h3
        | false => exact asks_yf fa fn fc pa pn pc ht fs ps i W HM HT HPT HF HP hh hf hp hi hl h1 h2 h3
      · exact asks_yn fa fn fc pa pn pc ht fs ps i W HM HT HPT HF HP hh hf hp hi hl h1 (by omega)
    · by_cases h2 : i < pn
      · cases h3 : ps.getD i false with
        | true => exact asks_nt fa fn fc pa pn pc ht fs ps i W HM HT HPT HF HP hh hf hp hi hl (by omega) h2 h3
        | false => exact asks_nf fa fn fc pa pn pc ht fs ps i W HM HT HPT HF HP hh hf hp hi hl (by omega) h2 h3
      · exact asks_nn fa fn fc pa pn pc ht fs ps i W HM HT HPT HF HP hh hf hp hi hl (by omega) (by omega)
end Go.Proofs.YtkilajobnlagbaaDoor
