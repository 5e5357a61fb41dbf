/-
  tollhouselaw01.OctetLays (function 3): any things' bytes are the document's; some of one kind at once are each alone.
-/
import Derived.Test.YtneacogenjlhgaaFits
import Derived.Deep.RegionHeld3
namespace Go.Proofs.Ytneacogenjlhgaa
open Go.RowKit
set_option linter.unusedVariables false

def laysAll (l : List It) : List Int := l.flatMap It.lays
theorem laysAll_take (l : List It) (k : Nat) (x : It) (hk : k < l.length) (hx : l.getD k default = x) : laysAll (l.take (k + 1)) = laysAll (l.take k) ++ x.lays := by
  rw [it_take l k x hk hx]
  simp [laysAll]
theorem lays_le (x : It) (w : World) (h : x.Ok w) (hn : x.n ≤ 4096) : x.lays.length ≤ 4100 := by
  have h1 := h.d
  have h2 := h.b
  unfold It.lays
  split
  · simp
  split
  · simp [be4]
  split
  · simp [be8, be4]
  split
  · omega
  split
  · simp [be4]; omega
  · simp
theorem laysAll_le : ∀ (l : List It) (w : World), (∀ x ∈ l, x.Ok w ∧ x.n ≤ 4096) → (laysAll l).length ≤ 4100 * l.length
  | [], _, _ => by simp [laysAll]
  | x :: r, w, h => by
    have h1 := lays_le x w (h x (by simp)).1 (h x (by simp)).2
    have h2 := laysAll_le r w (fun y hy => h y (by simp [hy]))
    simp only [laysAll, List.flatMap_cons, List.length_append, List.length_cons] at h2 ⊢
    omega
theorem to_string26 (w : World) (A : Option Addr) (c n : Nat) (l : List Int) (hn : n = l.length) (hS : Src w A c l) : (convert 26 9 (.slice A n c)).run Try.prog w = .ok (.string (txt l)) w := by
  subst hn
  rw [run_convert_bytes_string w 26 9 5 A l.length c Try.underlying26 Try.underlying5 Try.underlying9]
  rcases hS.2 with rfl | ⟨b, off, rfl, _, hc⟩
  · cases A with
    | none => rfl
    | some ad =>
      refine run_bytesToString w ad 0 c [] ?_
      exact run_loadCells_list w ad [] (by simp)
  · refine run_bytesToString w _ l.length c l ?_
    have h := run_loadCells_list (P := Try.prog) w ⟨b, off, none⟩ (l.map (Value.int .u8)) (by
      intro j v hv
      have hj : j < l.length := by
        have := (List.getElem?_eq_some_iff.1 hv).1
        simpa using this
      rw [Go.WideShapes.add_plain, hc j hj, ← hv]
      simp [List.getD, hj])
    simpa using h
theorem Own.far {w w' : World} {base : Nat} {v : Value} {l : List Int} {r : Option Nat} (h : Own w base v l) (hg : w.grownBy w' r) (hne : ∀ g, v.ownBlock = some g → r ≠ some g) : Own w' base v l := by
  refine World.ownsRow.kept h hg ?_
  rcases hv : v.ownBlock with _ | g
  · exact .inl rfl
  · exact .inr fun he => hne g hv (by rw [← he])
theorem Own.lt_ {w : World} {base g : Nat} {v : Value} {l : List Int} (h : Own w base v l) (hv : v.ownBlock = some g) : base ≤ g ∧ g < w.heap.size := World.ownsRow.lt h g hv
theorem Apart.lies {w : World} {base : Nat} {t t' u : Value} {l : List Int} (h : Apart t u) (hu : Own w base u l) (hL : Lies w t t') : Apart t' u := by
  intro g hg
  rcases hL with he | ⟨g', hg', he⟩
  · exact h g (by rw [← he]; exact hg)
  · rw [he] at hg
    injection hg with hg
    subst hg
    intro hu'
    have := (hu.lt_ hu').2
    omega
theorem Apart.symm {t u : Value} (h : Apart t u) : Apart u t := fun g hg ht => h g ht hg

/-- A call at a step of a region that draws its order. -/
theorem step_call {ops : Array Oper} {o : Oper} {a : Act} {w : World} {K : Act → World → Prop} {Q : Exit → Act → World → Prop} {E : Prop} (hw : Region.wanted o (yielded ops a.tmps) = true) (f : FuncId) (args : Array Operand) (tys : Array TypeId)
    (ho : o.op = .call { callee := .value (.func f), args := args, argTypes := tys }) (vs : Array Value) (hv : args.map a.eval = vs) {R : Ending → World → Prop} (hf : (callFunc f vs).run Try.prog w = .ok (.enter f vs) w) (hc : Calls Try.prog f vs w R)
    (hR : ∀ e w', R e w' → ∃ v, e = .returned v ∧ K (a.put o.dst v) w') :
    if Region.wanted o (yielded ops a.tmps) = true then Oper.wp Try.prog o a w K Q else E := by
  rw [if_pos hw]
  have e : (execOp a.eval o).run Try.prog w = .ok (.enter f vs) w := by
    unfold execOp
    simp only [ho]
    go_simp
    first | done | (rw [hv]; exact hf)
  unfold Oper.wp
  rw [e, Oper.upon_enter]
  refine hc.mono ?_
  intro e w' hr
  obtain ⟨v, rfl, hv⟩ := hR e w' hr
  exact hv

set_option maxRecDepth 100000 in
set_option maxHeartbeats 4000000 in
theorem octetLays_walk (A : Option Addr) (len cap : Nat) (l : List It) (A2 : Option Addr) (len2 cap2 : Nat) (ns : List Int) (W : World) (HI : Hid (Items W A l)) (HL : Hid (l.length = len)) (hm : len ≤ 140737488355328) (HR : Hid (Rd .u64 W A2 ns)) (HL2 : Hid (ns.length = len2)) (hm2 : len2 ≤ 17592186044415) (HNS : Hid (∀ n ∈ ns, 0 ≤ n ∧ n ≤ 18446744073709551615)) :
    Calls Try.prog 3 #[.slice A len cap, .slice A2 len2 cap2] W fun e w' => e = .returned (.bool true) ∧ Below W.heap.size W w' := by
  go_enter Try.func3, Try.ntmps3
  go_wp2_with fail
  refine (fits_any A cap len l W HI.out HL.out hm).mono ?_
  rintro e w0 ⟨rfl, hB0⟩
  have HB0 := Lib.hid hB0
  clear hB0
  rcases hf : fitsB l with _ | _
  · clear hf
    go_wp2_with fail
    refine (awake1_any _).mono ?_
    rintro e w1 ⟨rfl, h1⟩
    go_wp2
    go_ret
    exact ⟨rfl, HB0.out.trans (h1.mono HB0.out.size)⟩
  · have hf' := hf
    unfold fitsB at hf'
    rw [Bool.and_eq_true] at hf'
    have hl40 : l.length ≤ 40 := by simpa using hf'.2
    have HALL : Hid (∀ x ∈ l, x.n ≤ 4096) := Lib.hid fun x hx => by simpa using List.all_eq_true.1 hf'.1 x hx
    rw [HL.out] at hl40
    clear hf hf'
    go_wp2_with fail
    go_loopw [18, 5, 6, 8] (fun i o t _ wr => ∃ (k : Nat), k ≤ len ∧ i = .int .i64 k ∧ Hid (Own wr w0.heap.size o (laysAll (l.take k))) ∧ Hid (Own wr w0.heap.size t (laysAll (l.take k))) ∧ Hid (Apart o t) ∧ Hid (Below w0.heap.size w0 wr)) (fun i _ _ _ _ => len - (intOf i).toNat)
    case atStart => exact ⟨0, Nat.zero_le _, rfl, Lib.hid (Own.nil _ _), Lib.hid (Own.nil _ _), Lib.hid (fun g hg => by simp [Value.ownBlock] at hg), Lib.hid (Below.refl _ _)⟩
    case round =>
      obtain ⟨k, hk, rfl, HO, HU, HAP, HB⟩ := hrel
      have HWB : Hid (Below W.heap.size W wr) := Lib.hid (HB0.out.trans (HB.out.mono HB0.out.size))
      by_cases hlt : k < len
      · have hkn : k < l.length := by rw [HL.out]; exact hlt
        rcases HI.out.1 with h0 | ⟨b, off, rfl, hb, hc⟩
        · exfalso
          rw [h0] at hkn
          simp at hkn
        · obtain ⟨x, hx⟩ : ∃ x, l.getD k default = x := ⟨_, rfl⟩
          have hrange := hc k hkn
          rw [hx] at hrange
          have HRG := Lib.hid (rangeAt_below hrange HWB.out hb)
          have hok := HI.out.2 x (it_mem l k x hkn hx)
          have HTK := Lib.hid (laysAll_take l k x hkn hx)
          have hbl : x.cells.length = 36 := x.size hok.d
          have HBS : Hid ((Try.prog.info? 31).map (·.size) = some x.cells.length) := Lib.hid (by rw [hbl]; exact info31)
          have HST : Hid ((Try.prog.info? 31).map (·.size) = some x.cells.toArray.size) := Lib.hid (by rw [List.size_toArray, hbl]; exact info31)
          have hz36 : zit.size = 36 := rfl
          have HSZ : Hid (zit.size = x.cells.toArray.size) := Lib.hid (by rw [hz36, List.size_toArray, hbl])
          have HAL : Hid (x.cells.toArray.all (·.oneCell') = true) := Lib.hid x.oneCells
          have HLA := Lib.hid (heap_alloc_last wr (.cells zit 31))
          have HOK := Lib.hid hok
          have hbr : b < wr.heap.size := Nat.lt_of_lt_of_le hb HWB.out.size
          have HN4 := Lib.hid (HALL.out x (it_mem l k x hkn hx))
          have HLE : Hid ((laysAll (l.take k)).length ≤ 1000000) := Lib.hid (by
            have h1 := laysAll_le (l.take k) W (fun y hy => ⟨HI.out.2 y (List.mem_of_mem_take hy), HALL.out y (List.mem_of_mem_take hy)⟩)
            rw [List.length_take] at h1
            omega)
          clear hc hx hrange hok hbl hz36
          unfold zit at HSZ HLA
          have HRX := Lib.hid (Held.range wr x)
          go_wp2_with (first | (refine wpList_load_mid rfl 31 (.tmp 20) rfl b (off + k * 36) rfl x.cells _ HRG.out Try.underlying31 rfl HBS.out ?_) | (refine wpList_store_row rfl 31 (.tmp 8) (.tmp 21) rfl wr.heap.size x.cells.toArray rfl rfl 31 _ HLA.out HST.out HSZ.out HAL.out ?_; rw [World.setRow_alloc_new]) | (refine wpList_load_mid rfl 31 (.tmp 8) rfl wr.heap.size 0 rfl x.cells _ HRX.out Try.underlying31 rfl HBS.out ?_))
          have HOX := Lib.hid (World.ownsRow.alloc HO.out (.cells x.cells.toArray 31))
          have HUX := Lib.hid (World.ownsRow.alloc HU.out (.cells x.cells.toArray 31))
          have HWX := Lib.hid (HWB.out.alloc HWB.out.size (.cells x.cells.toArray 31))
          have HBX := Lib.hid (HB.out.alloc HB.out.size (.cells x.cells.toArray 31))
          have hgx : wr.heap.size < (wr.alloc (.cells x.cells.toArray 31)).heap.size := by simp
          have HOB : Hid (∀ g, u5.ownBlock = some g → g < wr.heap.size) := Lib.hid fun g hg => (Own.lt_ HO.out hg).2
          generalize wr.alloc (.cells x.cells.toArray 31) = wx at HOX HUX HWX HBX HRX hgx ⊢
          refine (lay_any u5 x w0.heap.size _ wx HOX.out (HOK.out.below HWX.out) HN4.out HLE.out HBX.out.size).mono ?_
          intro e w1 h1
          obtain ⟨v1, rfl, hO1, hg1, hL1⟩ := h1
          have HO1 := Lib.hid hO1
          have HU1 := Lib.hid (Own.far HUX.out hg1 (fun g hg => fun he => HAP.out g he hg))
          have HA1 := Lib.hid (Apart.lies HAP.out HUX.out hL1)
          have HB1 := Lib.hid (Laid.keep HBX.out HOX.out HBX.out.size hg1)
          have HW1 : Hid (Below W.heap.size W w1) := Lib.hid (HB0.out.trans (HB1.out.mono HB0.out.size))
          have HRX1 := Lib.hid (rangeAt_grown HRX.out hg1 hgx (by intro he; have := HOB.out _ he.symm; omega))
          clear hO1 hg1 hL1 HO HU HOX HUX HWX HBX HRX HLA HSZ HST HAL HRG
          go_wp2_with (first | (refine wpList_load_mid rfl 31 (.tmp 8) rfl wr.heap.size 0 rfl x.cells _ HRX1.out Try.underlying31 rfl HBS.out ?_))
          refine (laid_any u6 x w0.heap.size _ w1 HU1.out (HOK.out.below HW1.out) HN4.out HLE.out HB1.out.size).mono ?_
          intro e w2 h2
          obtain ⟨v2, rfl, hO2, hg2, hL2⟩ := h2
          have HU2 := Lib.hid hO2
          have HO2 := Lib.hid (Own.far HO1.out hg2 (fun g hg => fun he => HA1.out g hg he))
          have HA2 := Lib.hid (Apart.symm (Apart.lies (Apart.symm HA1.out) HO1.out hL2))
          have HB2 := Lib.hid (Laid.keep HB1.out HU1.out HB1.out.size hg2)
          clear hO2 hg2 hL2 HO1 HU1 HA1 HRX1
          rw [← HTK.out] at HU2 HO2
          go_wp2
          go_roundw
          case rel => exact ⟨k + 1, by omega, by go_num, HO2, HU2, HA2, HB2⟩
          case measure => simp [intOf]; omega
      · obtain rfl : k = len := by omega
        have htk : l.take k = l := List.take_of_length_le (by rw [HL.out]; exact Nat.le_refl _)
        rw [htk] at HO HU
        clear htk
        obtain ⟨w3, e3⟩ : ∃ w3, w3 = wr := ⟨_, rfl⟩
        subst e3
        go_wp2_with fail
        go_loopw [31, 9, 11] (fun i t _ wr => ∃ (j : Nat), j ≤ len2 ∧ i = .int .i64 j ∧ Hid (Own wr w3.heap.size t (be8s (ns.take j))) ∧ Hid (Below w3.heap.size w3 wr)) (fun i _ _ _ => len2 - (intOf i).toNat)
        case atStart => exact ⟨0, Nat.zero_le _, rfl, Lib.hid (Own.nil _ _), Lib.hid (Below.refl _ _)⟩
        case round =>
          obtain ⟨j, hj, rfl, HP, HB3⟩ := hrel
          by_cases hlt2 : j < len2
          · have hjn : j < ns.length := by rw [HL2.out]; exact hlt2
            rcases HR.out with h0 | ⟨b, off, rfl, hb, hc⟩
            · exfalso
              rw [h0] at hjn
              simp at hjn
            · obtain ⟨x, hx⟩ : ∃ x, ns.getD j 0 = x := ⟨_, rfl⟩
              have hcell := hc j hjn
              rw [hx] at hcell
              have hWW : Below W.heap.size W wr := HWB.out.trans (HB3.out.mono HWB.out.size)
              rw [← hWW.cell (p := ⟨b, off + j, none⟩) hb] at hcell
              have hbr : b < wr.heap.size := Nat.lt_of_lt_of_le hb hWW.size
              have HXB := Lib.hid (HNS.out x (by rw [← hx]; simp [List.getD, hjn]))
              have HSN := Lib.hid (be8s_snoc ns j x hjn hx)
              have HLB : Hid ((be8s (ns.take j)).length + 8 ≤ 140737488355320) := Lib.hid (by rw [be8s_length, List.length_take]; omega)
              clear hc hx hWW
              have x0 := HXB.out.1
              have x1 := HXB.out.2
              go_wp2_with fail
              have h5 := eight_any u9 _ 1 w3.heap.size (be8s (ns.take j)) [x] _ (World.ownsRow.alloc HP.out (.cells #[.int .u64 x] 28)) (Rd.lit .u64 28 wr #[.int .u64 x] [x] rfl) (by simp; omega) (by have := HLB.out; simp; omega) (by have := HB3.out.size; simp; omega)
              rw [show ([x] : List Int).length = 1 from rfl, be8s_single, HSN.out] at h5
              ((with_reducible refine h5.mono ?_))
              clear h5
              intro e w4 h4
              obtain ⟨v4, rfl, hO4, hg4, hL4⟩ := h4
              have HO4 := Lib.hid hO4
              have HB4 := Lib.hid (Laid.keep (HB3.out.alloc HB3.out.size (.cells #[.int .u64 x] 28)) (World.ownsRow.alloc HP.out (.cells #[.int .u64 x] 28)) (by have := HB3.out.size; simp; omega) hg4)
              clear hO4 hg4 hL4 hcell
              go_wp2
              go_roundw
              case rel => exact ⟨j + 1, by omega, by go_num, HO4, HB4⟩
              case measure => simp [intOf]; omega
          · obtain rfl : j = len2 := by omega
            have htk : ns.take j = ns := List.take_of_length_le (by rw [HL2.out]; exact Nat.le_refl _)
            rw [htk] at HP
            clear htk
            have HWR : Hid (Below W.heap.size W wr) := Lib.hid (HWB.out.trans (HB3.out.mono HWB.out.size))
            obtain ⟨A5, c5, hv5, hs5⟩ := (HO.out.below HB3.out).src
            obtain ⟨A6, c6, hv6, hs6⟩ := (HU.out.below HB3.out).src
            obtain ⟨A9, c9, hv9, hs9⟩ := HP.out.src
            have HK : Hid (∀ w', Below wr.heap.size wr w' → (convert 27 9 u5).run Try.prog w' = .ok (.string (txt (laysAll l))) w' ∧ (convert 26 9 u6).run Try.prog w' = .ok (.string (txt (laysAll l))) w' ∧ (convert 27 9 u9).run Try.prog w' = .ok (.string (txt (be8s ns))) w') := Lib.hid fun w' h => ⟨by rw [hv5]; exact to_string w' A5 c5 _ _ rfl (hs5.below h), by rw [hv6]; exact to_string26 w' A6 c6 _ _ rfl (hs6.below h), by rw [hv9]; exact to_string w' A9 c9 _ _ rfl (hs9.below h)⟩
            have HEI : Hid (∀ (w' : World) (g : Nat), Below wr.heap.size wr w' → w'.heap[g]? = some (.cells #[] 5 (0, 0)) → wr.heap.size ≤ g → Calls Try.prog 18 #[.slice (some ⟨g, 0, none⟩) 0 0, .slice A2 j cap2] w' fun e w'' => ∃ v, e = .returned v ∧ (convert 27 9 v).run Try.prog w'' = .ok (.string (txt (be8s ns))) w'' ∧ Below wr.heap.size wr w'') := Lib.hid fun w' g h hg hgw => by
              have hO : Own w' wr.heap.size (.slice (some ⟨g, 0, none⟩) 0 0) [] := ⟨rfl, .inr ⟨g, 0, #[], rfl, hgw, hg, Nat.le_refl _, by unfold maxLen; omega, rfl, rfl⟩⟩
              have h8 := eight_any (.slice (some ⟨g, 0, none⟩) 0 0) A2 cap2 wr.heap.size [] ns w' hO (HR.out.below (HWR.out.trans (h.mono HWR.out.size))) HNS.out (by rw [HL2.out]; simp; omega) h.size
              rw [HL2.out, List.nil_append] at h8
              refine h8.mono ?_
              rintro e w'' ⟨v, rfl, hO8, hg8, hL8⟩
              obtain ⟨A8, c8, hv8, hs8⟩ := hO8.src
              refine ⟨v, rfl, by rw [hv8]; exact to_string w'' A8 c8 _ _ rfl hs8, Laid.keep h hO h.size hg8⟩
            clear hv5 hs5 hv6 hs6 hv9 hs9
            go_wp2_with fail
            refine wp_region_held_drew (S := fun w' => Below wr.heap.size wr w') (by kernel_rfl) (Below.refl _ _).drew (fun hHeld => ?_)
            have HSX0 : Hid (Below wr.heap.size wr wr.drew) := Lib.hid hHeld
            generalize wr.drew = X0 at hHeld HSX0 ⊢
            refine wpAnyH_ready (rs := [0]) (by kernel_rfl) (by simp) ?_
            refine AllReadyH.cons rfl (fun K hK => ?_) AllReadyH.nil
            refine step_call rfl 15 #[] #[] rfl #[] (by simp) (by go_simp) (awake1_any X0) ?_
            rintro e X1 ⟨rfl, hBX1⟩
            have HSX1 := Lib.hid (HSX0.out.trans (hBX1.mono HSX0.out.size))
            clear hBX1
            refine ⟨_, rfl, hK.out _ _ HSX1.out (fun hHeld => ?_)⟩
            clear hK K
            show wpAnyH _ _ _ _ _ _ _ (Act.put _ (some 40) _) _
            simp only [Act.put, List.setIfInBounds_toArray, List.set_cons_zero, List.set_cons_succ]
            refine wpAnyH_take (i := 1) (v := .bool true) rfl (by kernel_rfl) (by kernel_rfl) (by kernel_rfl) (fun _ _ _ h => h) (Or.inl ⟨by rfl, fun w _ => by rfl⟩) hHeld ?_
            show wpAnyH _ _ _ _ _ _ _ (Act.put _ (some 41) _) _
            simp only [Act.put, List.setIfInBounds_toArray, List.set_cons_zero, List.set_cons_succ]
            refine wpAnyH_take (i := 2) (v := u5) rfl (by kernel_rfl) (by kernel_rfl) (by kernel_rfl) (fun _ _ _ h => h) (Or.inl ⟨by rfl, fun w _ => by rfl⟩) hHeld ?_
            show wpAnyH _ _ _ _ _ _ _ (Act.put _ (some 42) _) _
            simp only [Act.put, List.setIfInBounds_toArray, List.set_cons_zero, List.set_cons_succ]
            refine wpAnyH_take (i := 3) (v := .string (txt (laysAll l))) rfl (by kernel_rfl) (by kernel_rfl) (by kernel_rfl) (fun _ _ _ h => h) (Or.inl ⟨by rfl, by intro w hSw; obtain ⟨y5, y6, y9⟩ := HK.out w hSw; go_simp⟩) hHeld ?_
            show wpAnyH _ _ _ _ _ _ _ (Act.put _ (some 43) _) _
            simp only [Act.put, List.setIfInBounds_toArray, List.set_cons_zero, List.set_cons_succ]
            refine wpAnyH_take (i := 4) (v := u6) rfl (by kernel_rfl) (by kernel_rfl) (by kernel_rfl) (fun _ _ _ h => h) (Or.inl ⟨by rfl, fun w _ => by rfl⟩) hHeld ?_
            show wpAnyH _ _ _ _ _ _ _ (Act.put _ (some 44) _) _
            simp only [Act.put, List.setIfInBounds_toArray, List.set_cons_zero, List.set_cons_succ]
            refine wpAnyH_take (i := 5) (v := .string (txt (laysAll l))) rfl (by kernel_rfl) (by kernel_rfl) (by kernel_rfl) (fun _ _ _ h => h) (Or.inl ⟨by rfl, by intro w hSw; obtain ⟨y5, y6, y9⟩ := HK.out w hSw; go_simp⟩) hHeld ?_
            show wpAnyH _ _ _ _ _ _ _ (Act.put _ (some 45) _) _
            simp only [Act.put, List.setIfInBounds_toArray, List.set_cons_zero, List.set_cons_succ]
            refine wpAnyH_take (i := 6) (v := .bool true) rfl (by kernel_rfl) (by kernel_rfl) (by kernel_rfl) (fun _ _ _ h => h) (Or.inl ⟨by rfl, by intro w hSw; go_simp⟩) hHeld ?_
            show wpAnyH _ _ _ _ _ _ _ (Act.put _ (some 46) _) _
            simp only [Act.put, List.setIfInBounds_toArray, List.set_cons_zero, List.set_cons_succ]
            refine wpAnyH_take (i := 7) (v := .bool true) rfl (by kernel_rfl) (by kernel_rfl) (by kernel_rfl) (fun _ _ _ h => h) (Or.inl ⟨by rfl, by intro w hSw; first | rfl | go_simp⟩) hHeld ?_
            show wpAnyH _ _ _ _ _ _ _ (Act.put _ (some 47) _) _
            simp only [Act.put, List.setIfInBounds_toArray, List.set_cons_zero, List.set_cons_succ]
            refine wpAnyH_take (i := 8) (v := .bool true) rfl (by kernel_rfl) (by kernel_rfl) (by kernel_rfl) (fun _ _ _ h => h) (Or.inl ⟨by rfl, fun w _ => by rfl⟩) hHeld ?_
            show wpAnyH _ _ _ _ _ _ _ (Act.put _ (some 48) _) _
            simp only [Act.put, List.setIfInBounds_toArray, List.set_cons_zero, List.set_cons_succ]
            refine wpAnyH_take (i := 10) (v := .slice A2 j cap2) rfl (by kernel_rfl) (by kernel_rfl) (by kernel_rfl) (fun _ _ _ h => h) (Or.inl ⟨by rfl, fun w _ => by rfl⟩) hHeld ?_
            show wpAnyH _ _ _ _ _ _ _ (Act.put _ (some 50) _) _
            simp only [Act.put, List.setIfInBounds_toArray, List.set_cons_zero, List.set_cons_succ]
            refine wpAnyH_take (i := 13) (v := u9) rfl (by kernel_rfl) (by kernel_rfl) (by kernel_rfl) (fun _ _ _ h => h) (Or.inl ⟨by rfl, fun w _ => by rfl⟩) hHeld ?_
            show wpAnyH _ _ _ _ _ _ _ (Act.put _ (some 53) _) _
            simp only [Act.put, List.setIfInBounds_toArray, List.set_cons_zero, List.set_cons_succ]
            refine wpAnyH_take (i := 14) (v := .string (txt (be8s ns))) rfl (by kernel_rfl) (by kernel_rfl) (by kernel_rfl) (fun _ _ _ h => h) (Or.inl ⟨by rfl, by intro w hSw; obtain ⟨y5, y6, y9⟩ := HK.out w hSw; go_simp⟩) hHeld ?_
            show wpAnyH _ _ _ _ _ _ _ (Act.put _ (some 54) _) _
            simp only [Act.put, List.setIfInBounds_toArray, List.set_cons_zero, List.set_cons_succ]
            refine wpAnyH_ready (rs := [9]) (by kernel_rfl) (by simp) ?_
            refine AllReadyH.cons rfl (fun K hK => ?_) AllReadyH.nil
            go_simp
            have HSX2 : Hid (Below wr.heap.size wr (X1.alloc (.cells #[] 5))) := Lib.hid (HSX1.out.alloc HSX1.out.size _)
            have HLA : Hid ((X1.alloc (.cells #[] 5)).heap[X1.heap.size]? = some (.cells #[] 5 (0, 0))) := Lib.hid (heap_alloc_last _ _)
            refine hK.out _ _ HSX2.out (fun hHeld => ?_)
            clear hK K
            try simp only [Act.put, List.setIfInBounds_toArray, List.set_cons_zero, List.set_cons_succ]
            refine wpAnyH_ready (rs := [11]) (by kernel_rfl) (by simp) ?_
            refine AllReadyH.cons rfl (fun K hK => ?_) AllReadyH.nil
            refine step_call rfl 18 #[.tmp 49, .tmp 50] #[27, 23] rfl #[.slice (some ⟨X1.heap.size, 0, none⟩) 0 0, .slice A2 j cap2] (by simp [Act.eval]) (by go_simp) (HEI.out _ X1.heap.size HSX2.out HLA.out HSX1.out.size) ?_
            rintro e X3 ⟨v5, rfl, hc5, hBX3⟩
            have HSX3 := Lib.hid hBX3
            clear hBX3
            refine ⟨_, rfl, hK.out _ _ HSX3.out (fun hHeld => ?_)⟩
            clear hK K
            show wpAnyH _ _ _ _ _ _ _ (Act.put _ (some 51) _) _
            simp only [Act.put, List.setIfInBounds_toArray, List.set_cons_zero, List.set_cons_succ]
            refine wpAnyH_ready (rs := [12]) (by kernel_rfl) (by simp) ?_
            refine AllReadyH.cons rfl (fun K hK => ?_) AllReadyH.nil
            go_simp
            refine hK.out _ _ HSX3.out (fun hHeld => ?_)
            clear hK K
            try simp only [Act.put, List.setIfInBounds_toArray, List.set_cons_zero, List.set_cons_succ]
            refine wpAnyH_take (i := 15) (v := .bool true) rfl (by kernel_rfl) (by kernel_rfl) (by kernel_rfl) (fun _ _ _ h => h) (Or.inl ⟨by rfl, by intro w hSw; go_simp⟩) hHeld ?_
            show wpAnyH _ _ _ _ _ _ _ (Act.put _ (some 55) _) _
            simp only [Act.put, List.setIfInBounds_toArray, List.set_cons_zero, List.set_cons_succ]
            refine wpAnyH_take (i := 16) (v := .bool true) rfl (by kernel_rfl) (by kernel_rfl) (by kernel_rfl) (fun _ _ _ h => h) (Or.inl ⟨by rfl, by intro w hSw; first | rfl | go_simp⟩) hHeld ?_
            show wpAnyH _ _ _ _ _ _ _ (Act.put _ (some 56) _) _
            simp only [Act.put, List.setIfInBounds_toArray, List.set_cons_zero, List.set_cons_succ]
            refine wpAnyH_take (i := 17) (v := .bool true) rfl (by kernel_rfl) (by kernel_rfl) (by kernel_rfl) (fun _ _ _ h => h) (Or.inl ⟨by rfl, fun w _ => by rfl⟩) hHeld ?_
            show wpAnyH _ _ _ _ _ _ _ (Act.put _ (some 4) _) _
            simp only [Act.put, List.setIfInBounds_toArray, List.set_cons_zero, List.set_cons_succ]
            refine wpAnyH_done (by kernel_rfl) ?_ _
            go_wp2
            go_ret
            exact ⟨rfl, HWR.out.trans (HSX3.out.mono HWR.out.size)⟩
end Go.Proofs.Ytneacogenjlhgaa
