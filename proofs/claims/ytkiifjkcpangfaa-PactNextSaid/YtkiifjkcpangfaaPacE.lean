/-
  Whether a state may be: the program's.
-/
import Derived.Test.YtkiifjkcpangfaaPacD
namespace Go.Proofs.Ytkiifjkcpangfaa
open Go.RowKit
set_option linter.unusedVariables false

set_option maxRecDepth 100000 in
set_option maxHeartbeats 4000000 in
theorem sound_any (ch rd m0 m1 t0 t1 : Int) (a : Option Addr) (n cap : Nat) (cs : List Cnd) (p0 p1 : Int) (w : World) (hC : CRow w a cs) (hl : cs.length = n) (hn : n ≤ 1000) (hp0 : Word p0) (hp1 : Word p1) (hO : St.Ok ⟨ch, rd, m0, m1, t0, t1, cs⟩) :
    Calls Try.prog 15 #[.agg #[.int .u32 ch, .int .u64 rd, .int .u64 m0, .int .u64 m1, .int .u64 t0, .int .u64 t1, .slice a n cap], .agg #[.int .u64 p0, .int .u64 p1]] w fun e w' => e = .returned (.int .i64 (soundE ⟨ch, rd, m0, m1, t0, t1, cs⟩ p0 p1)) ∧ Below w.heap.size w w' := by
  have HC := Lib.hid hC
  have HL := Lib.hid hl
  have HO := Lib.hid hO
  have HP0 := Lib.hid hp0
  have HP1 := Lib.hid hp1
  have hrd := hO.rd
  have HB : Hid (Below w.heap.size w ((w.alloc (.cells #[.int .u32 ch, .int .u64 rd, .int .u64 m0, .int .u64 m1, .int .u64 t0, .int .u64 t1, .slice a n cap] 31)).alloc (.cells #[.int .u64 p0, .int .u64 p1] 24))) := Lib.hid (((Below.refl _ _).alloc (Nat.le_refl _) _).alloc (by simp) _)
  have S0 : Hid (Blk ((w.alloc (.cells #[.int .u32 ch, .int .u64 rd, .int .u64 m0, .int .u64 m1, .int .u64 t0, .int .u64 t1, .slice a n cap] 31)).alloc (.cells #[.int .u64 p0, .int .u64 p1] 24)) w.heap.size 31 [.int .u32 ch, .int .u64 rd, .int .u64 m0, .int .u64 m1, .int .u64 t0, .int .u64 t1, .slice a n cap]) := Lib.hid ((Blk.mk_ rfl).alloc _)
  have P0 : Hid (Blk ((w.alloc (.cells #[.int .u32 ch, .int .u64 rd, .int .u64 m0, .int .u64 m1, .int .u64 t0, .int .u64 t1, .slice a n cap] 31)).alloc (.cells #[.int .u64 p0, .int .u64 p1] 24)) (w.heap.size + 1) 24 [.int .u64 p0, .int .u64 p1]) := Lib.hid (Blk.mk_ (by simp))
  clear hC hl hp0 hp1 hO
  by_cases h1 : 200 < rd
  · have d1 : decide (200 < rd) = true := decide_eq_true h1
    have HT : Hid (soundE ⟨ch, rd, m0, m1, t0, t1, cs⟩ p0 p1 = 8) := Lib.hid (by unfold soundE; rw [if_pos (.inl h1)])
    go_enter Try.func15, Try.ntmps15
    go_wp2
    go_ret
    exact ⟨by rw [HT.out]; rfl, HB.out⟩
  · have d1 : decide (200 < rd) = false := decide_eq_false h1
    by_cases h2 : 8 < n
    · have d2 : decide ((8 : Int) < (n : Int)) = true := decide_eq_true (by omega)
      have HT : Hid (soundE ⟨ch, rd, m0, m1, t0, t1, cs⟩ p0 p1 = 8) := Lib.hid (by unfold soundE; rw [if_pos (.inr (by rw [show (St.cs ⟨ch, rd, m0, m1, t0, t1, cs⟩).length = n from HL.out]; exact h2))])
      go_enter Try.func15, Try.ntmps15
      go_wp2
      go_ret
      exact ⟨by rw [HT.out]; rfl, HB.out⟩
    · have d2 : decide ((8 : Int) < (n : Int)) = false := decide_eq_false (by omega)
      have HT : Hid (soundE ⟨ch, rd, m0, m1, t0, t1, cs⟩ p0 p1 = if soundGo cs 0 cs ≠ 0 then soundGo cs 0 cs else if (freeF ⟨ch, rd, m0, m1, t0, t1, cs⟩ p0 p1 0).2 ≠ 0 then (freeF ⟨ch, rd, m0, m1, t0, t1, cs⟩ p0 p1 0).2 else (freeF ⟨ch, rd, m0, m1, t0, t1, cs⟩ p0 p1 1).2) := Lib.hid (by unfold soundE; rw [if_neg (by rw [show (St.cs ⟨ch, rd, m0, m1, t0, t1, cs⟩).length = n from HL.out]; intro h; rcases h with h | h; exact h1 h; exact h2 h)])
      go_enter Try.func15, Try.ntmps15
      go_wp2
      generalize ((w.alloc (.cells #[.int .u32 ch, .int .u64 rd, .int .u64 m0, .int .u64 m1, .int .u64 t0, .int .u64 t1, .slice a n cap] 31)).alloc (.cells #[.int .u64 p0, .int .u64 p1] 24)) = W at HB S0 P0 ⊢
      generalize hg : w.heap.size = g at S0 P0 ⊢
      have HG := Lib.hid hg
      clear hg
      go_loopw [5, 6, 23] (fun _ _ i wr => ∃ (k : Nat), k ≤ n ∧ i = .int .i64 k ∧ Hid (soundGo cs 0 cs = soundGo cs k (cs.drop k)) ∧ Hid (Below w.heap.size w wr) ∧ Hid (Blk wr g 31 [.int .u32 ch, .int .u64 rd, .int .u64 m0, .int .u64 m1, .int .u64 t0, .int .u64 t1, .slice a n cap]) ∧ Hid (Blk wr (g + 1) 24 [.int .u64 p0, .int .u64 p1])) (fun _ _ i _ => n - (intOf i).toNat)
      case atStart => exact ⟨0, Nat.zero_le _, rfl, Lib.hid rfl, HB, S0, P0⟩
      case round =>
        clear HB S0 P0
        obtain ⟨k, hk, rfl, HS, HB, S0, P0⟩ := hrel
        by_cases hlt : k < n
        · have hk' : k < cs.length := by rw [HL.out]; exact hlt
          obtain ⟨b, o, c, rfl, hb, hc, hr, hok⟩ := HC.out.get hk'
          have HX := Lib.hid (sound_step HS.out hk' hc)
          have RG := range_below hr HB.out hb
          have HOK := Lib.hid hok
          clear hc hr hb
          have hz1 : (Try.prog.info? 60).map (·.size) = some c.cells.toArray.size := by rw [hok.size]; exact info60
          have hz2 : (Try.prog.info? 60).map (·.size) = some c.cells.length := by rw [hok.len]; exact info60
          have hz3 : (#[.int .u64 0, .int .i64 0, .int .u64 0, .int .u8 0, .int .u8 0, .int .u8 0, .int .u8 0, .int .u8 0, .int .u8 0, .int .u8 0, .int .u8 0, .int .u8 0, .int .u8 0, .int .u8 0, .int .u8 0, .int .u8 0, .int .u8 0, .int .u8 0, .int .u8 0, .int .u8 0, .int .u8 0, .int .u8 0, .int .u8 0, .int .u8 0, .int .u8 0, .int .u8 0, .int .u8 0, .int .u8 0, .int .u8 0, .int .u8 0, .int .u8 0, .int .u8 0, .int .u8 0, .int .u8 0, .int .u8 0, .int .u64 0] : Array Value).size = c.cells.toArray.size := by rw [hok.size]; rfl
          have hco := c.all_one
          have HLA := heap_alloc_last wr (.cells #[.int .u64 0, .int .i64 0, .int .u64 0, .int .u8 0, .int .u8 0, .int .u8 0, .int .u8 0, .int .u8 0, .int .u8 0, .int .u8 0, .int .u8 0, .int .u8 0, .int .u8 0, .int .u8 0, .int .u8 0, .int .u8 0, .int .u8 0, .int .u8 0, .int .u8 0, .int .u8 0, .int .u8 0, .int .u8 0, .int .u8 0, .int .u8 0, .int .u8 0, .int .u8 0, .int .u8 0, .int .u8 0, .int .u8 0, .int .u8 0, .int .u8 0, .int .u8 0, .int .u8 0, .int .u8 0, .int .u8 0, .int .u64 0] 60)
          go_upto_region 6 with (first | (refine wpList_load_mid rfl 60 (.tmp 26) rfl b (o + k * 36) rfl c.cells _ RG Try.underlying60 rfl hz2 ?_) | (refine wpList_store_row rfl 60 (.tmp 6) (.tmp 27) rfl wr.heap.size c.cells.toArray rfl rfl 60 _ HLA hz1 hz3 hco ?_; rw [World.setRow_alloc_new]) | fail)
          have hD := Blk.new wr 60 c.cells
          clear hz1 hz2 hz3 hco HLA
          have hB : Below wr.heap.size wr (wr.alloc (.cells c.cells.toArray 60)) := (Below.refl _ _).alloc (Nat.le_refl _) _
          have HV : Hid (Below w.heap.size w (wr.alloc (.cells c.cells.toArray 60))) := Lib.hid (HB.out.trans (hB.mono HB.out.size))
          have SV := Lib.hid (S0.out.below hB S0.out.lt)
          have PV := Lib.hid (P0.out.below hB P0.out.lt)
          have c0 := hD.cell 0
          have c1 := hD.cell 1
          have c2 := hD.cell 2
          rw [Cnd.c0] at c0
          rw [Cnd.c1] at c1
          rw [Cnd.c2] at c2
          have DV := Lib.hid hD
          clear RG hD hok hB S0 P0 HB HS
          generalize wr.alloc (.cells c.cells.toArray 60) = V at HV SV PV DV c0 c1 c2 ⊢
          generalize wr.heap.size = gc at DV c0 c1 c2 ⊢
          obtain ⟨x, hx⟩ : ∃ x, c.amt = x := ⟨_, rfl⟩
          obtain ⟨y, hy⟩ : ∃ y, c.side = y := ⟨_, rfl⟩
          rw [hx] at c2 HX
          rw [hy] at c1 HX
          clear hx hy
          by_cases hs : y ≠ 0 ∧ y ≠ 1
          · have HE := Lib.hid (HX.out.1 (.inl hs))
            go_wp2_with (go_at_call 35; refine (isSideN _ _ hs.1 hs.2).mono ?_; rintro e w' ⟨rfl, rfl⟩)
            go_ret
            exact ⟨by rw [HT.out, HE.out]; rfl, HV.out⟩
          · by_cases hx0 : x = 0
            · have HE := Lib.hid (HX.out.1 (.inr hx0))
              subst hx0
              rcases (show y = 0 ∨ y = 1 by omega) with hy | hy
              · subst hy
                go_wp2_with (go_at_call 35; refine (isSide0 _).mono ?_; rintro e w' ⟨rfl, rfl⟩)
                go_ret
                exact ⟨by rw [HT.out, HE.out]; rfl, HV.out⟩
              · subst hy
                go_wp2_with (go_at_call 35; refine (isSide1 _).mono ?_; rintro e w' ⟨rfl, rfl⟩)
                go_ret
                exact ⟨by rw [HT.out, HE.out]; rfl, HV.out⟩
            · have HY := Lib.hid (HX.out.2 (fun h => h.elim hs hx0))
              have b2 : (x == 0) = false := by simpa using hx0
              clear HX hx0
              have k0 := SV.out.cell 0
              have k1 := SV.out.cell 1
              have k2 := SV.out.cell 2
              have k3 := SV.out.cell 3
              have k4 := SV.out.cell 4
              have k5 := SV.out.cell 5
              have k6 := SV.out.cell 6
              simp only [List.getElem?_cons_zero, List.getElem?_cons_succ] at k0 k1 k2 k3 k4 k5 k6
              rcases (show y = 0 ∨ y = 1 by omega) with hy | hy
              · subst hy
                clear hs
                go_wp2_with (go_at_call 35; refine (isSide0 _).mono ?_; rintro e w' ⟨rfl, rfl⟩)
                refine (find_any ch rd m0 m1 t0 t1 (some ⟨b, o, none⟩) n cap cs c.id V (HC.out.below HV.out) HL.out hn).mono ?_
                rintro e U ⟨rfl, hB⟩
                have HU := Lib.hid (HV.out.trans (hB.mono HV.out.size))
                have SU := Lib.hid (SV.out.below hB SV.out.lt)
                have PU := Lib.hid (PV.out.below hB PV.out.lt)
                clear hB SV PV DV HV c0 c1 c2 k0 k1 k2 k3 k4 k5 k6
                by_cases hf : findV c.id cs < (k : Int)
                · have HE := Lib.hid (HY.out.1 (by omega))
                  have d3 : decide (findV c.id cs < (k : Int)) = true := decide_eq_true hf
                  clear hf
                  go_wp2
                  go_ret
                  exact ⟨by rw [HT.out, HE.out]; rfl, HU.out⟩
                · have HE := Lib.hid (HY.out.2 (by omega))
                  have d3 : decide (findV c.id cs < (k : Int)) = false := decide_eq_false hf
                  clear hf
                  go_wp2
                  go_roundw
                  case rel => exact ⟨k + 1, by omega, by go_num, HE, HU, SU, PU⟩
                  case measure => simp [intOf] <;> omega
              · subst hy
                clear hs
                go_wp2_with (go_at_call 35; refine (isSide1 _).mono ?_; rintro e w' ⟨rfl, rfl⟩)
                refine (find_any ch rd m0 m1 t0 t1 (some ⟨b, o, none⟩) n cap cs c.id V (HC.out.below HV.out) HL.out hn).mono ?_
                rintro e U ⟨rfl, hB⟩
                have HU := Lib.hid (HV.out.trans (hB.mono HV.out.size))
                have SU := Lib.hid (SV.out.below hB SV.out.lt)
                have PU := Lib.hid (PV.out.below hB PV.out.lt)
                clear hB SV PV DV HV c0 c1 c2 k0 k1 k2 k3 k4 k5 k6
                by_cases hf : findV c.id cs < (k : Int)
                · have HE := Lib.hid (HY.out.1 (by omega))
                  have d3 : decide (findV c.id cs < (k : Int)) = true := decide_eq_true hf
                  clear hf
                  go_wp2
                  go_ret
                  exact ⟨by rw [HT.out, HE.out]; rfl, HU.out⟩
                · have HE := Lib.hid (HY.out.2 (by omega))
                  have d3 : decide (findV c.id cs < (k : Int)) = false := decide_eq_false hf
                  clear hf
                  go_wp2
                  go_roundw
                  case rel => exact ⟨k + 1, by omega, by go_num, HE, HU, SU, PU⟩
                  case measure => simp [intOf] <;> omega
        · have HE := Lib.hid (sound_end HS.out (by rw [HL.out]; omega))
          have k0 := S0.out.cell 0
          have k1 := S0.out.cell 1
          have k2 := S0.out.cell 2
          have k3 := S0.out.cell 3
          have k4 := S0.out.cell 4
          have k5 := S0.out.cell 5
          have k6 := S0.out.cell 6
          simp only [List.getElem?_cons_zero, List.getElem?_cons_succ] at k0 k1 k2 k3 k4 k5 k6
          have q0 := P0.out.cell 0
          have q1 := P0.out.cell 1
          simp only [List.getElem?_cons_zero, List.getElem?_cons_succ] at q0 q1
          have hw0 := HB.out.size
          go_wp2_with fail
          refine (free_any ch rd m0 m1 t0 t1 a n cap cs p0 p1 0 wr (HC.out.below HB.out) HL.out hn HP0.out HP1.out HO.out).mono ?_
          rintro e V ⟨rfl, hB⟩
          have HV := Lib.hid (HB.out.trans (hB.mono HB.out.size))
          have SV := Lib.hid (S0.out.below hB S0.out.lt)
          have PV := Lib.hid (P0.out.below hB P0.out.lt)
          clear hB S0 P0 HB k0 k1 k2 k3 k4 k5 k6 q0 q1
          obtain ⟨fv, hfv⟩ : ∃ x, (freeF ⟨ch, rd, m0, m1, t0, t1, cs⟩ p0 p1 0).1 = x := ⟨_, rfl⟩
          obtain ⟨fe, hfe⟩ : ∃ x, (freeF ⟨ch, rd, m0, m1, t0, t1, cs⟩ p0 p1 0).2 = x := ⟨_, rfl⟩
          rw [hfv, hfe]
          have HFE := Lib.hid hfe
          clear hfv hfe
          by_cases h0 : fe = 0
          · subst h0
            have k0 := SV.out.cell 0
            have k1 := SV.out.cell 1
            have k2 := SV.out.cell 2
            have k3 := SV.out.cell 3
            have k4 := SV.out.cell 4
            have k5 := SV.out.cell 5
            have k6 := SV.out.cell 6
            simp only [List.getElem?_cons_zero, List.getElem?_cons_succ] at k0 k1 k2 k3 k4 k5 k6
            have q0 := PV.out.cell 0
            have q1 := PV.out.cell 1
            simp only [List.getElem?_cons_zero, List.getElem?_cons_succ] at q0 q1
            go_wp2_with fail
            refine (free_any ch rd m0 m1 t0 t1 a n cap cs p0 p1 1 V (HC.out.below HV.out) HL.out hn HP0.out HP1.out HO.out).mono ?_
            rintro e U ⟨rfl, hB⟩
            have HU := Lib.hid (HV.out.trans (hB.mono HV.out.size))
            clear hB SV PV HV k0 k1 k2 k3 k4 k5 k6 q0 q1
            obtain ⟨gv, hgv⟩ : ∃ x, (freeF ⟨ch, rd, m0, m1, t0, t1, cs⟩ p0 p1 1).1 = x := ⟨_, rfl⟩
            obtain ⟨ge, hge⟩ : ∃ x, (freeF ⟨ch, rd, m0, m1, t0, t1, cs⟩ p0 p1 1).2 = x := ⟨_, rfl⟩
            rw [hgv, hge]
            have HGE := Lib.hid hge
            clear hgv hge
            go_wp2
            go_ret
            exact ⟨by rw [HT.out, HE.out, HFE.out, HGE.out]; rfl, HU.out⟩
          · have b0 : (fe != 0) = true := by simpa using h0
            have H0 := Lib.hid h0
            clear h0
            go_wp2
            go_ret
            exact ⟨by rw [HT.out, HE.out, HFE.out, if_neg (by decide), if_pos H0.out]; rfl, HV.out⟩
end Go.Proofs.Ytkiifjkcpangfaa
