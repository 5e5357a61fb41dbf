/-
  law11.CodeRuns 3: its walk.
-/
import Derived.Test.YtkilajobnlagbaaDoorCodT
import Derived.Test.YtkilajobnlagbaaDoorCodDA
namespace Go.Proofs.YtkilajobnlagbaaDoor
open Go.RowKit
set_option linter.unusedVariables false

theorem rrun_any (A : Option Addr) (n c : Nat) (p : List Int) (fa : Option Addr) (fn fc : Nat) (pa : Option Addr) (pn pc : Nat) (ht : Int) (fs : List Int) (ps : List Bool) (gas : Int) (w : World) (HP : Hid (Pg w A n c p)) (HF : Hid (FRow w fa fn fs)) (HB : Hid (BRow w pa pn ps)) (hh : Word ht) (hfn : fn ≤ 300) (hpn : pn ≤ 300) :
    Calls Tryd.prog 13 #[.slice A n c, wldV fa fn fc pa pn pc ht, .int .i64 gas] w fun e w' => e = .returned (retV (runV p fs ps ht gas)) ∧ Below w.heap.size w w' := by
  have hl := HP.out.len
  by_cases h : 256 < n ∨ gas < 0 ∨ 4096 < gas
  · have := rrun_bad A n c fa fn fc pa pn pc ht gas w h
    unfold runV
    rw [if_pos (by rw [hl]; exact h)]
    exact this
  · obtain ⟨G, rfl⟩ : ∃ G : Nat, gas = (G : Int) := ⟨gas.toNat, by omega⟩
    have := rrun_good A n c p fa fn fc pa pn pc ht fs ps G w HP HF HB hh hfn hpn (by omega) (by omega) _ (Lib.hid rfl)
    unfold runV
    rw [if_neg (by rw [hl]; exact h), Int.toNat_natCast]
    exact this
theorem light_yes2 {fn pn : Nat} (h : lightB fn pn = true) : fn ≤ 300 ∧ pn ≤ 300 := by simpa [lightB] using h
theorem run_at (A : Option Addr) (n c : Nat) (l : List Int) (fa : Option Addr) (fn fc : Nat) (pa : Option Addr) (pn pc : Nat) (ht : Int) (fs : List Int) (ps : List Bool) (gas : Int) (x : Int) (y : Nat) (z : Int) (he : runV l fs ps ht gas = (x, y, z)) (w : World) (HP : Hid (Pg w A n c l)) (HT : Hid (KTab w)) (HF : Hid (FRow w fa fn fs)) (HB : Hid (BRow w pa pn ps)) (hh : Word ht) (hfn : fn ≤ 300) (hpn : pn ≤ 300) :
    Calls Tryd.prog 11 #[.slice A n c, wldV fa fn fc pa pn pc ht, .int .i64 gas] w fun e w' => e = .returned (.tuple #[.int .u64 x, .int .i64 (y : Int), .int .i64 z]) ∧ Below w.heap.size w w' := by
  have := run_any A n c l fa fn fc pa pn pc ht fs ps gas w HP HT HF HB hh (by omega) (by omega)
  rw [he] at this
  exact this
theorem rrun_at (A : Option Addr) (n c : Nat) (l : List Int) (fa : Option Addr) (fn fc : Nat) (pa : Option Addr) (pn pc : Nat) (ht : Int) (fs : List Int) (ps : List Bool) (gas : Int) (x : Int) (y : Nat) (z : Int) (he : runV l fs ps ht gas = (x, y, z)) (w : World) (HP : Hid (Pg w A n c l)) (HF : Hid (FRow w fa fn fs)) (HB : Hid (BRow w pa pn ps)) (hh : Word ht) (hfn : fn ≤ 300) (hpn : pn ≤ 300) :
    Calls Tryd.prog 13 #[.slice A n c, .agg #[.slice fa fn fc, .slice pa pn pc, .int .u64 ht], .int .i64 gas] w fun e w' => e = .returned (.tuple #[.int .u64 x, .int .i64 (y : Int), .int .i64 z]) ∧ Below w.heap.size w w' := by
  have := rrun_any A n c l fa fn fc pa pn pc ht fs ps gas w HP HF HB hh hfn hpn
  rw [he] at this
  exact this

set_option maxRecDepth 100000 in
set_option maxHeartbeats 4000000 in
theorem runs_dark (A : Option Addr) (n c : Nat) (l : List Int) (fa : Option Addr) (fn fc : Nat) (pa : Option Addr) (pn pc : Nat) (ht : Int) (fs : List Int) (ps : List Bool) (gas : Int) (W : World) (HM : Hid (MCell W)) (HT : Hid (KTab W)) (HPT : Hid (PTab W)) (HG : Hid (Pg W A n c l)) (HF : Hid (FRow W fa fn fs)) (HP : Hid (BRow W pa pn ps)) (hh : Word ht) (hf : fn ≤ maxLen) (hp : pn ≤ maxLen) (hgas : -9223372036854775808 ≤ gas ∧ gas ≤ 9223372036854775807) (hl : lightB fn pn = false) :
    Calls Tryd.prog 3 #[.slice A n c, wldV fa fn fc pa pn pc ht, .int .i64 gas] W fun e W1 => e = .returned (.bool true) ∧ Below W.heap.size W W1 := by
  have HL := Lib.hid (fun w => light_any fa fn fc pa pn pc ht w hf hp)
  rw [hl] at HL
  unfold wldV at HL ⊢
  go_enter Tryd.func3, Tryd.ntmps3
  go_upto_region 1 with fail
  have B1 : Hid (Below W.heap.size W (W.alloc (.cells #[.slice fa fn fc, .slice pa pn pc, .int .u64 ht] 27))) := Lib.hid (up1 W _)
  have Q1 : Hid (Blk (W.alloc (.cells #[.slice fa fn fc, .slice pa pn pc, .int .u64 ht] 27)) W.heap.size 27 [.slice fa fn fc, .slice pa pn pc, .int .u64 ht]) := Lib.hid (Blk.new W 27 [.slice fa fn fc, .slice pa pn pc, .int .u64 ht])
  generalize W.alloc (.cells #[.slice fa fn fc, .slice pa pn pc, .int .u64 ht] 27) = Y1 at B1 Q1 ⊢
  have c0 := Q1.out.cell 0
  have c1 := Q1.out.cell 1
  have c2 := Q1.out.cell 2
  simp only [List.getElem?_cons_zero, List.getElem?_cons_succ] at c0 c1 c2
  go_wp2_with fail
  clear c0 c1 c2
  refine (HL.out _).mono ?_
  rintro e Y2 ⟨rfl, hB⟩
  have B2 : Hid (Below W.heap.size W Y2) := Lib.hid (B1.out.trans (hB.mono B1.out.size))
  have Q2 : Hid (Blk Y2 W.heap.size 27 [.slice fa fn fc, .slice pa pn pc, .int .u64 ht]) := Lib.hid (Q1.out.below hB Q1.out.lt)
  clear hB B1 Q1
  go_wp2_with fail
  refine (awake_any Y2 (Lib.hid (HM.out.below B2.out)) (Lib.hid (HT.out.keep B2.out)) (Lib.hid (PTab.below HPT.out B2.out))).mono ?_
  rintro e Y3 ⟨rfl, hB⟩
  have B3 : Hid (Below W.heap.size W Y3) := Lib.hid (B2.out.trans (hB.mono B2.out.size))
  have Q3 : Hid (Blk Y3 W.heap.size 27 [.slice fa fn fc, .slice pa pn pc, .int .u64 ht]) := Lib.hid (Q2.out.below hB Q2.out.lt)
  clear hB B2 Q2
  go_wp2
  go_ret
  exact ⟨rfl, B3.out⟩
  
set_option maxRecDepth 100000 in
set_option maxHeartbeats 4000000 in
theorem runs_light (A : Option Addr) (n c : Nat) (l : List Int) (fa : Option Addr) (fn fc : Nat) (pa : Option Addr) (pn pc : Nat) (ht : Int) (fs : List Int) (ps : List Bool) (gas : Int) (W : World) (HM : Hid (MCell W)) (HT : Hid (KTab W)) (HPT : Hid (PTab W)) (HG : Hid (Pg W A n c l)) (HF : Hid (FRow W fa fn fs)) (HP : Hid (BRow W pa pn ps)) (hh : Word ht) (hf : fn ≤ maxLen) (hp : pn ≤ maxLen) (hgas : -9223372036854775808 ≤ gas ∧ gas ≤ 9223372036854775807) (hl : lightB fn pn = true) :
    Calls Tryd.prog 3 #[.slice A n c, wldV fa fn fc pa pn pc ht, .int .i64 gas] W fun e W1 => e = .returned (.bool true) ∧ Below W.heap.size W W1 := by
  have HL := Lib.hid (fun w => light_any fa fn fc pa pn pc ht w hf hp)
  rw [hl] at HL
  obtain ⟨hf3, hp3⟩ := light_yes2 hl
  have HF3 := Lib.hid hf3
  have HP3 := Lib.hid hp3
  have HHH := Lib.hid hh
  have HTO := Lib.hid (fun w hF hP => to_any fa fn fc pa pn pc ht fs ps w hF hP hf3 hp3)
  obtain ⟨x, y, z, he⟩ : ∃ x y z, runV l fs ps ht gas = (x, y, z) := ⟨_, _, _, rfl⟩
  have HE := Lib.hid he
  clear hl hf hp hf3 hp3 hh he hgas
  unfold wldV at HL HTO ⊢
  go_enter Tryd.func3, Tryd.ntmps3
  go_upto_region 1 with fail
  have B1 : Hid (Below W.heap.size W (W.alloc (.cells #[.slice fa fn fc, .slice pa pn pc, .int .u64 ht] 27))) := Lib.hid (up1 W _)
  have Q1 : Hid (Blk (W.alloc (.cells #[.slice fa fn fc, .slice pa pn pc, .int .u64 ht] 27)) W.heap.size 27 [.slice fa fn fc, .slice pa pn pc, .int .u64 ht]) := Lib.hid (Blk.new W 27 [.slice fa fn fc, .slice pa pn pc, .int .u64 ht])
  generalize W.alloc (.cells #[.slice fa fn fc, .slice pa pn pc, .int .u64 ht] 27) = Y1 at B1 Q1 ⊢
  have c0 := Q1.out.cell 0
  have c1 := Q1.out.cell 1
  have c2 := Q1.out.cell 2
  simp only [List.getElem?_cons_zero, List.getElem?_cons_succ] at c0 c1 c2
  go_wp2_with fail
  clear c0 c1 c2
  refine (HL.out _).mono ?_
  rintro e Y2 ⟨rfl, hB⟩
  have B2 : Hid (Below W.heap.size W Y2) := Lib.hid (B1.out.trans (hB.mono B1.out.size))
  have Q2 : Hid (Blk Y2 W.heap.size 27 [.slice fa fn fc, .slice pa pn pc, .int .u64 ht]) := Lib.hid (Q1.out.below hB Q1.out.lt)
  clear hB B1 Q1
  have c0 := Q2.out.cell 0
  have c1 := Q2.out.cell 1
  have c2 := Q2.out.cell 2
  simp only [List.getElem?_cons_zero, List.getElem?_cons_succ] at c0 c1 c2
  go_wp2_with fail
  clear c0 c1 c2
  refine (HTO.out Y2 (Lib.hid (HF.out.below (B := 0) B2.out)) (Lib.hid (HP.out.below B2.out))).mono ?_
  rintro e Y3 ⟨fa2, fc2, pa2, pc2, rfl, hF, hP, hB⟩
  have F3 := Lib.hid hF
  have P3 := Lib.hid hP
  clear hF hP
  have B3 : Hid (Below W.heap.size W Y3) := Lib.hid (B2.out.trans (hB.mono B2.out.size))
  have Q3 : Hid (Blk Y3 W.heap.size 27 [.slice fa fn fc, .slice pa pn pc, .int .u64 ht]) := Lib.hid (Q2.out.below hB Q2.out.lt)
  clear hB B2 Q2
  go_wp2_with fail
  refine (run_at A n c l fa2 fn fc2 pa2 pn pc2 ht fs ps gas x y z HE.out Y3 (Lib.hid (HG.out.below B3.out)) (Lib.hid (HT.out.keep B3.out)) F3 P3 HHH.out HF3.out HP3.out).mono ?_
  rintro e Y4 ⟨rfl, hB⟩
  have B4 : Hid (Below W.heap.size W Y4) := Lib.hid (B3.out.trans (hB.mono B3.out.size))
  have Q4 : Hid (Blk Y4 W.heap.size 27 [.slice fa fn fc, .slice pa pn pc, .int .u64 ht]) := Lib.hid (Q3.out.below hB Q3.out.lt)
  clear hB B3 Q3
  clear F3 P3
  have c0 := Q4.out.cell 0
  have c1 := Q4.out.cell 1
  have c2 := Q4.out.cell 2
  simp only [List.getElem?_cons_zero, List.getElem?_cons_succ] at c0 c1 c2
  go_wp2_with fail
  clear c0 c1 c2
  refine (rrun_at A n c l fa fn fc pa pn pc ht fs ps gas x y z HE.out Y4 (Lib.hid (HG.out.below B4.out)) (Lib.hid (HF.out.below (B := 0) B4.out)) (Lib.hid (HP.out.below B4.out)) HHH.out HF3.out HP3.out).mono ?_
  rintro e Y5 ⟨rfl, hB⟩
  have B5 : Hid (Below W.heap.size W Y5) := Lib.hid (B4.out.trans (hB.mono B4.out.size))
  have Q5 : Hid (Blk Y5 W.heap.size 27 [.slice fa fn fc, .slice pa pn pc, .int .u64 ht]) := Lib.hid (Q4.out.below hB Q4.out.lt)
  clear hB B4 Q4
  go_wp2_with fail
  refine (awake_any Y5 (Lib.hid (HM.out.below B5.out)) (Lib.hid (HT.out.keep B5.out)) (Lib.hid (PTab.below HPT.out B5.out))).mono ?_
  rintro e Y6 ⟨rfl, hB⟩
  have B6 : Hid (Below W.heap.size W Y6) := Lib.hid (B5.out.trans (hB.mono B5.out.size))
  have Q6 : Hid (Blk Y6 W.heap.size 27 [.slice fa fn fc, .slice pa pn pc, .int .u64 ht]) := Lib.hid (Q5.out.below hB Q5.out.lt)
  clear hB B5 Q5
  go_wp2
  go_ret
  exact ⟨rfl, B6.out⟩
  
theorem codeRuns_walk (A : Option Addr) (n c : Nat) (l : List Int) (fa : Option Addr) (fn fc : Nat) (pa : Option Addr) (pn pc : Nat) (ht : Int) (fs : List Int) (ps : List Bool) (gas : Int) (W : World) (HM : Hid (MCell W)) (HT : Hid (KTab W)) (HPT : Hid (PTab W)) (HG : Hid (Pg W A n c l)) (HF : Hid (FRow W fa fn fs)) (HP : Hid (BRow W pa pn ps)) (hh : Word ht) (hf : fn ≤ maxLen) (hp : pn ≤ maxLen) (hgas : -9223372036854775808 ≤ gas ∧ gas ≤ 9223372036854775807) :
    Calls Tryd.prog 3 #[.slice A n c, wldV fa fn fc pa pn pc ht, .int .i64 gas] W fun e W1 => e = .returned (.bool true) ∧ Below W.heap.size W W1 := by
  cases hl : lightB fn pn with
  | false => exact runs_dark A n c l fa fn fc pa pn pc ht fs ps gas W HM HT HPT HG HF HP hh hf hp hgas hl
  | true => exact runs_light A n c l fa fn fc pa pn pc ht fs ps gas W HM HT HPT HG HF HP hh hf hp hgas hl
end Go.Proofs.YtkilajobnlagbaaDoor
