/-
  tollhouselaw07's To: a web as the program's, the same numbers; memory that was there stays as it was.
-/
import Derived.Test.YtnnimjaigciedaaM05
namespace Go.Proofs.Ytnnimjaigciedaa
open Go.RowKit
set_option linter.unusedVariables false

theorem edge_info : (Try.prog.info? 52).map (fun i => (i.zero, i.size, i.bytes)) = some (some (.agg #[.int .i64 0, .int .i64 0, .int .u64 0, .int .u64 0, .int .u64 0, .int .u64 0, .int .u64 0, .int .u64 0]), 8, 64) := by kernel_rfl

/-- The cells of channels. -/
def eflat (l : List Ed) : List Value := l.flatMap ecells
theorem eflat_snoc (l : List Ed) (k : Nat) (x : Ed) (hk : k < l.length) (hx : l.getD k ed0 = x) : eflat (l.take k) ++ ecells x = eflat (l.take (k + 1)) := by
  have e : l[k] = x := by rw [← hx]; simp [List.getD, hk]
  rw [List.take_succ_eq_append_getElem hk, e]
  simp [eflat]


theorem own_apart {w : World} {base : Nat} {e e' : TypeId} {s s' n n' : Nat} {v v' : Value} {xs xs' : List Value} (h : w.ownsRow base e s v n xs) (h' : w.ownsRow base e' s' v' n' xs') (hne : e ≠ e') : v.ownBlock = none ∨ v.ownBlock ≠ v'.ownBlock := by
  rcases h.2 with ⟨rfl, _⟩ | ⟨g, cap, cur, rfl, _, hg, _⟩
  · exact .inl rfl
  · rcases h'.2 with ⟨rfl, _⟩ | ⟨g', cap', cur', rfl, _, hg', _⟩
    · exact .inr (by simp [Value.ownBlock])
    · refine .inr ?_
      simp only [Value.ownBlock]
      intro e
      injection e with e
      subst e
      rw [hg] at hg'
      injection hg' with hg'
      injection hg' with _ ht
      exact hne ht

theorem EdgeRow.of_own {w : World} {base : Nat} {v : Value} {l : List Ed} (h : w.ownsRow base 52 8 v l.length (eflat l)) : ∃ a c, v = .slice a l.length c ∧ EdgeRow w a l := by
  have get : ∀ (l : List Ed) (i : Nat), i < l.length → ∀ j u, (ecells (l.getD i ed0))[j]? = some u → (eflat l)[i * 8 + j]? = some u := by
    intro l
    induction l with
    | nil => intro i hi; simp at hi
    | cons f r ih =>
      intro i hi j u hu
      have e : eflat (f :: r) = ecells f ++ eflat r := by simp [eflat]
      have hl : (ecells f).length = 8 := rfl
      rw [e]
      cases i with
      | zero =>
        have hu2 : (ecells f)[j]? = some u := by simpa using hu
        have hj : j < 8 := by
          have := (List.getElem?_eq_some_iff.1 hu2).1
          rw [hl] at this
          exact this
        rw [Nat.zero_mul, Nat.zero_add, List.getElem?_append_left (by rw [hl]; exact hj)]
        exact hu2
      | succ i =>
        have h3 := ih i (by simpa using hi) j u (by simpa using hu)
        rw [List.getElem?_append_right (by rw [hl]; omega), hl, show (i + 1) * 8 + j - 8 = i * 8 + j by omega]
        exact h3
  rcases h.2 with ⟨rfl, h0⟩ | ⟨g, c, cur, rfl, _, hg, _⟩
  · have : l = [] := List.eq_nil_of_length_eq_zero h0
    subst this
    exact ⟨none, 0, rfl, .inl rfl⟩
  · refine ⟨_, c, rfl, .inr ⟨g, 0, rfl, ?_, fun i hi j u hu => ?_⟩⟩
    · rcases Nat.lt_or_ge g w.heap.size with h2 | h2
      · exact h2
      · rw [Array.getElem?_eq_none h2] at hg; cases hg
    · have hj : j < 8 := by
        have := (List.getElem?_eq_some_iff.1 hu).1
        exact this
      rw [Nat.zero_add, h.cellAt (i * 8 + j) (by omega)]
      exact get l i hi j u hu

theorem EdgeRow.own' {w : World} {base n c : Nat} {a : Option Addr} {l : List Ed} (h : w.ownsRow base 52 8 (.slice a n c) l.length (eflat l)) : EdgeRow w a l := by
  obtain ⟨a', c', e, r⟩ := EdgeRow.of_own h
  injection e with e1
  rw [e1]
  exact r
theorem SpotRow.own' {w : World} {base n c : Nat} {a : Option Addr} {l : List (Int × Int)} (h : w.ownsRow base 62 2 (.slice a n c) l.length (flat l)) : SpotRow w a l := by
  obtain ⟨a', c', e, r⟩ := SpotRow.of_own h
  injection e with e1
  rw [e1]
  exact r

theorem own_nil {w : World} {base e s n m c : Nat} {a : Option Addr} {xs : List Value} (h : w.ownsRow base e s (.slice a n c) m xs) : a = none → m = 0 ∧ c = 0 := by
  intro ha
  subst ha
  rcases h.2 with ⟨h1, h2⟩ | ⟨g, cap, cur, h1, _⟩
  · injection h1 with _ _ h3
    exact ⟨h2, h3⟩
  · injection h1 with h1
    cases h1

theorem load58 (w : World) (g t : Nat) (a b : Option Addr) (l m c d : Nat) (h : Blk w g t [.slice a l c, .slice b m d]) : (loadVar 31 ⟨g, 0, none⟩).run Try.prog w = .ok (.agg #[.slice a l c, .slice b m d]) w := by
  have k1 := h.cell 0
  have k2 := h.cell 1
  simp only [List.getElem?_cons_zero, List.getElem?_cons_succ] at k1 k2
  go_simp
theorem result58 {fn : Func} {p : Tmp} (h : fn.results = #[.cell p 31]) (tmps : Array Value) (w : World) (g t : Nat) (a b : Option Addr) (l m c d : Nat) (hp : tmps.getD p undef = .pointer (some ⟨g, 0, none⟩)) (hP : Blk w g t [.slice a l c, .slice b m d]) :
    (results fn tmps).run Try.prog w = .ok (.agg #[.slice a l c, .slice b m d]) w := by
  have hp2 : tmps[p]?.getD undef = .pointer (some ⟨g, 0, none⟩) := by simpa using hp
  simp only [results, h]
  simp [hp2, asAddr, load58 w g t a b l m c d hP]

set_option maxRecDepth 100000 in
set_option maxHeartbeats 4000000 in
theorem wto_any (sa : Option Addr) (sl sc : Nat) (ea : Option Addr) (el ec : Nat) (sp : List (Int × Int)) (es : List Ed) (w : World) (hS : SpotRow w sa sp) (hE : EdgeRow w ea es) (hsl : sp.length = sl) (hel : es.length = el) (hs20 : sl ≤ 20) (he30 : el ≤ 30) :
    Calls Try.prog 15 #[.agg #[.slice sa sl sc, .slice ea el ec]] w fun r w' => ∃ sa' sc' ea' ec', r = .returned (.agg #[.slice sa' sl sc', .slice ea' el ec']) ∧ SpotRow w' sa' sp ∧ EdgeRow w' ea' es ∧ (sa' = none → sp = [] ∧ sc' = 0) ∧ (ea' = none → es = [] ∧ ec' = 0) ∧ Below w.heap.size w w' := by
  have HS := Lib.hid hS
  have HE := Lib.hid hE
  have HSL := Lib.hid hsl
  have HEL := Lib.hid hel
  clear hS hE hsl hel
  go_enter Try.func15, Try.ntmps15
  go_wp2
  have B0 : Hid (Blk (((w.alloc (.cells #[.slice sa sl sc, .slice ea el ec] 25)).alloc (.cells #[.slice none 0 0, .slice none 0 0] 31)).alloc (.cells #[.slice none 0 0, .slice none 0 0] 31)) w.heap.size 25 [.slice sa sl sc, .slice ea el ec]) := Lib.hid (((Blk.mk_ rfl).alloc _).alloc _)
  have R0 : Hid (Blk (((w.alloc (.cells #[.slice sa sl sc, .slice ea el ec] 25)).alloc (.cells #[.slice none 0 0, .slice none 0 0] 31)).alloc (.cells #[.slice none 0 0, .slice none 0 0] 31)) (w.heap.size + 1) 31 [.slice none 0 0, .slice none 0 0]) := Lib.hid ((Blk.mk_ (by simp)).alloc _)
  have O0 : Hid (Blk (((w.alloc (.cells #[.slice sa sl sc, .slice ea el ec] 25)).alloc (.cells #[.slice none 0 0, .slice none 0 0] 31)).alloc (.cells #[.slice none 0 0, .slice none 0 0] 31)) (w.heap.size + 1 + 1) 31 [.slice none 0 0, .slice none 0 0]) := Lib.hid (Blk.mk_ (by simp))
  have HW : Hid (Below w.heap.size w (((w.alloc (.cells #[.slice sa sl sc, .slice ea el ec] 25)).alloc (.cells #[.slice none 0 0, .slice none 0 0] 31)).alloc (.cells #[.slice none 0 0, .slice none 0 0] 31))) := Lib.hid ((((Below.refl _ _).alloc (Nat.le_refl _) _).alloc (by simp) _).alloc (by simp; omega) _)
  generalize ((w.alloc (.cells #[.slice sa sl sc, .slice ea el ec] 25)).alloc (.cells #[.slice none 0 0, .slice none 0 0] 31)).alloc (.cells #[.slice none 0 0, .slice none 0 0] 31) = W at B0 R0 O0 HW ⊢
  have HWs : Hid (w.heap.size ≤ W.heap.size) := Lib.hid HW.out.size
  have hW3 : w.heap.size + 1 + 1 < W.heap.size := O0.out.lt
  go_loopw [5, 11] (fun _ i wr => ∃ (k : Nat) (tv : Value), k ≤ sl ∧ i = .int .i64 k ∧ Hid (Blk wr w.heap.size 25 [.slice sa sl sc, .slice ea el ec]) ∧ Hid (Blk wr (w.heap.size + 1) 31 [.slice none 0 0, .slice none 0 0]) ∧ Hid (Blk wr (w.heap.size + 1 + 1) 31 [tv, .slice none 0 0]) ∧ Hid (wr.ownsRow W.heap.size 62 2 tv k (flat (sp.take k))) ∧ Hid (Below w.heap.size w wr) ∧ W.heap.size ≤ wr.heap.size) (fun _ i _ => sl - (intOf i).toNat)
  case atStart => exact ⟨0, .slice none 0 0, Nat.zero_le _, rfl, B0, R0, O0, Lib.hid ⟨rfl, .inl ⟨rfl, rfl⟩⟩, HW, Nat.le_refl _⟩
  case round =>
    clear B0 R0 O0
    obtain ⟨k, tv, hk, rfl, B0, R0, O0, OW, HB, HZ⟩ := hrel
    by_cases hlt : k < sl
    · obtain ⟨z, hz⟩ : ∃ z, sp.getD k (0, 0) = z := ⟨_, rfl⟩
      obtain ⟨u, v⟩ := z
      rcases HS.out with h0 | ⟨b0, off, rfl, hb, hc⟩
      · exfalso; have h := HSL.out; rw [h0] at h; simp at h; omega
      · obtain ⟨hc1, hc2⟩ := hc k (by rw [HSL.out]; exact hlt)
        rw [hz] at hc1 hc2
        have HF : Hid (flat (sp.take k) ++ [.int .i64 u, .int .i64 v] = flat (sp.take (k + 1))) := Lib.hid (flat_snoc sp k (u, v) (by rw [HSL.out]; exact hlt) hz)
        clear hz
        simp only at hc1 hc2
        rw [← HB.out.cell (p := ⟨b0, off + k * 2, none⟩) hb] at hc1
        rw [← HB.out.cell (p := ⟨b0, off + k * 2 + 1, none⟩) hb] at hc2
        have hb3 : b0 < wr.heap.size := Nat.lt_of_lt_of_le hb HB.out.size
        go_upto_region 5 with fail
        have S0 : Hid (Pt (wr.alloc (.cells #[.int .i64 u, .int .i64 v] 56)) wr.heap.size 56 u v) := Lib.hid (Pt.mk_ rfl)
        have NS : Hid (some wr.heap.size ≠ tv.ownBlock) := Lib.hid (fun e => by have h := (OW.out.lt _ e.symm).2; omega)
        have hgS : W.heap.size ≤ wr.heap.size := HZ
        replace B0 := Lib.hid (B0.out.alloc (.cells #[.int .i64 u, .int .i64 v] 56))
        replace R0 := Lib.hid (R0.out.alloc (.cells #[.int .i64 u, .int .i64 v] 56))
        replace O0 := Lib.hid (O0.out.alloc (.cells #[.int .i64 u, .int .i64 v] 56))
        replace OW := Lib.hid (OW.out.alloc (.cells #[.int .i64 u, .int .i64 v] 56))
        replace HB := Lib.hid (HB.out.alloc HB.out.size (.cells #[.int .i64 u, .int .i64 v] 56))
        replace HZ : W.heap.size ≤ (wr.alloc (.cells #[.int .i64 u, .int .i64 v] 56)).heap.size := by simp; omega
        generalize wr.alloc (.cells #[.int .i64 u, .int .i64 v] 56) = Y0 at S0 B0 R0 O0 OW HB HZ ⊢
        clear hc1 hc2 hb3 hc
        generalize wr.heap.size = gS at S0 NS hgS ⊢
        replace B0 := Lib.hid (B0.out.drewN 1)
        replace R0 := Lib.hid (R0.out.drewN 1)
        replace O0 := Lib.hid (O0.out.drewN 1)
        replace S0 := Lib.hid (S0.out.drewN 1)
        replace OW : Hid ((Y0.drewN 1).ownsRow W.heap.size 62 2 tv k (flat (sp.take k))) := Lib.hid OW.out.drew
        replace HB : Hid (Below w.heap.size w (Y0.drewN 1)) := Lib.hid (below_drewN HB.out 1)
        replace HZ : W.heap.size ≤ (Y0.drewN 1).heap.size := HZ
        refine wp_region_held_drew (S := fun w' => Pt w' gS 56 u v) (by kernel_rfl) S0.out (fun hHeld => ?_)
        generalize hY : Y0.drew = Y at hHeld ⊢
        rw [show Y0.drewN 1 = Y from hY] at B0 R0 O0 S0 OW HB HZ
        clear hY
        refine wpAnyH_take (i := 0) (v := .pointer (some ⟨w.heap.size + 1 + 1, 0, none⟩)) rfl (by kernel_rfl) (by kernel_rfl) (by kernel_rfl) (fun _ _ _ h => h) (Or.inl ⟨by rfl, by intro w' _; go_simp⟩) hHeld ?_
        show wpAnyH _ _ _ _ _ _ _ (Act.put _ (some 15) _) _
        simp only [Act.put, List.setIfInBounds_toArray, List.set_cons_zero, List.set_cons_succ]
        refine wpAnyH_take (i := 2) (v := .agg #[.int .i64 u, .int .i64 v]) rfl (by kernel_rfl) (by kernel_rfl) (by kernel_rfl) (fun _ _ _ h => h) (Or.inl ⟨by rfl, by intro w' h; have k1 := h.c0; have k2 := h.c1; go_simp⟩) hHeld ?_
        show wpAnyH _ _ _ _ _ _ _ (Act.put _ (some 17) _) _
        simp only [Act.put, List.setIfInBounds_toArray, List.set_cons_zero, List.set_cons_succ]
        refine wpAnyH_ready (rs := [1, 3]) (by kernel_rfl) (by simp) ?_
        refine AllReadyH.cons rfl (fun K hK => ?_) (AllReadyH.cons rfl (fun K hK => ?_) AllReadyH.nil)
        · have k1 := O0.out.cell 0
          simp only [List.getElem?_cons_zero] at k1
          refine step_yield rfl tv (by unfold execOp; go_simp) ?_
          clear k1
          refine hK.out _ _ S0.out (fun hHeld => ?_)
          clear hK K
          show wpAnyH _ _ _ _ _ _ _ (Act.put _ (some 16) _) _
          simp only [Act.put, List.setIfInBounds_toArray, List.set_cons_zero, List.set_cons_succ]
          refine wpAnyH_ready (rs := [3]) (by kernel_rfl) (by simp) ?_
          refine AllReadyH.cons rfl (fun K hK => ?_) AllReadyH.nil
          refine step_call rfl 25 #[.tmp 17] #[56] rfl #[.agg #[.int .i64 u, .int .i64 v]] (by simp [Act.eval]) (by go_simp) (to_any _ _ _) ?_
          rintro e Y ⟨rfl, hB⟩
          replace B0 := Lib.hid (B0.out.keep hB)
          replace R0 := Lib.hid (R0.out.keep hB)
          replace O0 := Lib.hid (O0.out.keep hB)
          replace S0 := Lib.hid (S0.out.keep hB)
          replace OW := Lib.hid (ownsRow_keep OW.out hB)
          replace HB := Lib.hid (HB.out.trans (hB.mono HB.out.size))
          replace HZ := Nat.le_trans HZ hB.size
          clear hB
          refine ⟨_, rfl, hK.out _ _ S0.out (fun hHeld => ?_)⟩
          clear hK K
          show wpAnyH _ _ _ _ _ _ _ (Act.put _ (some 18) _) _
          simp only [Act.put, List.setIfInBounds_toArray, List.set_cons_zero, List.set_cons_succ]
          refine wpAnyH_ready (rs := [4]) (by kernel_rfl) (by simp) ?_
          refine AllReadyH.cons rfl (fun K hK => ?_) AllReadyH.nil
          refine step_lay1 rfl (.tmp 18) rfl u v rfl ?_
          intro Y gL hL hB
          replace B0 := Lib.hid (B0.out.keep hB)
          replace R0 := Lib.hid (R0.out.keep hB)
          replace O0 := Lib.hid (O0.out.keep hB)
          replace S0 := Lib.hid (S0.out.keep hB)
          replace OW := Lib.hid (ownsRow_keep OW.out hB)
          replace HB := Lib.hid (HB.out.trans (hB.mono HB.out.size))
          replace HZ := Nat.le_trans HZ hB.size
          have L0 := Lib.hid hL
          clear hB hL
          refine hK.out _ _ S0.out (fun hHeld => ?_)
          clear hK K
          show wpAnyH _ _ _ _ _ _ _ (Act.put _ (some 19) _) _
          simp only [Act.put, List.setIfInBounds_toArray, List.set_cons_zero, List.set_cons_succ]
          refine wpAnyH_ready (rs := [5]) (by kernel_rfl) (by simp) ?_
          refine AllReadyH.cons rfl (fun K hK => ?_) AllReadyH.nil
          refine step_app39 rfl (.tmp 16) (.tmp 19) rfl W.heap.size tv k (flat (sp.take k)) rfl OW.out gL u v rfl L0.out (by omega) HZ ?_
          intro v2 Y hown hgrow
          replace B0 := Lib.hid (Blk.grown B0.out hgrow (ownBlock_ne OW.out (show w.heap.size < W.heap.size by omega)))
          replace R0 := Lib.hid (Blk.grown R0.out hgrow (ownBlock_ne OW.out (show w.heap.size + 1 < W.heap.size by omega)))
          replace O0 := Lib.hid (Blk.grown O0.out hgrow (ownBlock_ne OW.out (show w.heap.size + 1 + 1 < W.heap.size by omega)))
          replace S0 := Lib.hid (Pt.grown S0.out hgrow NS.out)
          replace HB := Lib.hid (HB.out.grown hgrow HB.out.size (fun g hg => Nat.le_trans HWs.out (OW.out.lt g hg).1))
          replace HZ := Nat.le_trans HZ hgrow.size
          rw [HF.out] at hown
          replace OW := Lib.hid hown
          clear hgrow hown L0
          refine hK.out _ _ S0.out (fun hHeld => ?_)
          clear hK K
          show wpAnyH _ _ _ _ _ _ _ (Act.put _ (some 20) _) _
          simp only [Act.put, List.setIfInBounds_toArray, List.set_cons_zero, List.set_cons_succ]
          refine wpAnyH_take (i := 6) (v := .pointer (some ⟨w.heap.size + 1 + 1, 0, none⟩)) rfl (by kernel_rfl) (by kernel_rfl) (by kernel_rfl) (fun _ _ _ h => h) (Or.inl ⟨by rfl, by intro w' _; go_simp⟩) hHeld ?_
          show wpAnyH _ _ _ _ _ _ _ (Act.put _ (some 21) _) _
          simp only [Act.put, List.setIfInBounds_toArray, List.set_cons_zero, List.set_cons_succ]
          obtain ⟨a2, c2, rfl⟩ := own_slice OW.out
          refine wpAnyH_ready (rs := [7]) (by kernel_rfl) (by simp) ?_
          refine AllReadyH.cons rfl (fun K hK => ?_) AllReadyH.nil
          refine step_slice39 rfl (.tmp 21) (.tmp 20) rfl (w.heap.size + 1 + 1) 31 [tv, .slice none 0 0] tv rfl a2 (k + 1) c2 rfl rfl O0.out ?_
          replace B0 := Lib.hid (B0.out.far (p := ⟨w.heap.size + 1 + 1, 0, none⟩) (by show w.heap.size ≠ w.heap.size + 1 + 1; omega) (.slice a2 (k + 1) c2))
          replace R0 := Lib.hid (R0.out.far (p := ⟨w.heap.size + 1 + 1, 0, none⟩) (by show w.heap.size + 1 ≠ w.heap.size + 1 + 1; omega) (.slice a2 (k + 1) c2))
          replace S0 : Hid (Pt (Y.setCell ⟨w.heap.size + 1 + 1, 0, none⟩ (.slice a2 (k + 1) c2)) gS 56 u v) := Lib.hid (Blk.far S0.out (p := ⟨w.heap.size + 1 + 1, 0, none⟩) (by show gS ≠ w.heap.size + 1 + 1; omega) (.slice a2 (k + 1) c2))
          replace O0 := Lib.hid (O0.out.set_ 0 (.slice a2 (k + 1) c2))
          simp only [List.set_cons_zero] at O0
          replace OW := Lib.hid (ownsRow_far OW.out (p := ⟨w.heap.size + 1 + 1, 0, none⟩) (show w.heap.size + 1 + 1 < W.heap.size by omega) (.slice a2 (k + 1) c2))
          replace HB := Lib.hid (HB.out.setCell (p := ⟨w.heap.size + 1 + 1, 0, none⟩) (show w.heap.size ≤ w.heap.size + 1 + 1 by omega) (.slice a2 (k + 1) c2))
          replace HZ : W.heap.size ≤ (Y.setCell ⟨w.heap.size + 1 + 1, 0, none⟩ (.slice a2 (k + 1) c2)).heap.size := by simpa [World.setCell] using HZ
          refine hK.out _ _ S0.out (fun hHeld => ?_)
          clear hK K
          show wpAnyH _ _ _ _ _ _ _ (Act.put _ none _) _
          simp only [Act.put]
          refine wpAnyH_done (by kernel_rfl) ?_ _
          go_wp2
          go_roundw
          case rel => exact ⟨k + 1, _, by omega, by go_num, B0, R0, O0, OW, HB, HZ⟩
          case measure => simp [intOf] <;> omega
        · refine step_call rfl 25 #[.tmp 17] #[56] rfl #[.agg #[.int .i64 u, .int .i64 v]] (by simp [Act.eval]) (by go_simp) (to_any _ _ _) ?_
          rintro e Y ⟨rfl, hB⟩
          replace B0 := Lib.hid (B0.out.keep hB)
          replace R0 := Lib.hid (R0.out.keep hB)
          replace O0 := Lib.hid (O0.out.keep hB)
          replace S0 := Lib.hid (S0.out.keep hB)
          replace OW := Lib.hid (ownsRow_keep OW.out hB)
          replace HB := Lib.hid (HB.out.trans (hB.mono HB.out.size))
          replace HZ := Nat.le_trans HZ hB.size
          clear hB
          refine ⟨_, rfl, hK.out _ _ S0.out (fun hHeld => ?_)⟩
          clear hK K
          show wpAnyH _ _ _ _ _ _ _ (Act.put _ (some 18) _) _
          simp only [Act.put, List.setIfInBounds_toArray, List.set_cons_zero, List.set_cons_succ]
          refine wpAnyH_ready (rs := [1, 4]) (by kernel_rfl) (by simp) ?_
          refine AllReadyH.cons rfl (fun K hK => ?_) (AllReadyH.cons rfl (fun K hK => ?_) AllReadyH.nil)
          · have k1 := O0.out.cell 0
            simp only [List.getElem?_cons_zero] at k1
            refine step_yield rfl tv (by unfold execOp; go_simp) ?_
            clear k1
            refine hK.out _ _ S0.out (fun hHeld => ?_)
            clear hK K
            show wpAnyH _ _ _ _ _ _ _ (Act.put _ (some 16) _) _
            simp only [Act.put, List.setIfInBounds_toArray, List.set_cons_zero, List.set_cons_succ]
            refine wpAnyH_ready (rs := [4]) (by kernel_rfl) (by simp) ?_
            refine AllReadyH.cons rfl (fun K hK => ?_) AllReadyH.nil
            refine step_lay1 rfl (.tmp 18) rfl u v rfl ?_
            intro Y gL hL hB
            replace B0 := Lib.hid (B0.out.keep hB)
            replace R0 := Lib.hid (R0.out.keep hB)
            replace O0 := Lib.hid (O0.out.keep hB)
            replace S0 := Lib.hid (S0.out.keep hB)
            replace OW := Lib.hid (ownsRow_keep OW.out hB)
            replace HB := Lib.hid (HB.out.trans (hB.mono HB.out.size))
            replace HZ := Nat.le_trans HZ hB.size
            have L0 := Lib.hid hL
            clear hB hL
            refine hK.out _ _ S0.out (fun hHeld => ?_)
            clear hK K
            show wpAnyH _ _ _ _ _ _ _ (Act.put _ (some 19) _) _
            simp only [Act.put, List.setIfInBounds_toArray, List.set_cons_zero, List.set_cons_succ]
            refine wpAnyH_ready (rs := [5]) (by kernel_rfl) (by simp) ?_
            refine AllReadyH.cons rfl (fun K hK => ?_) AllReadyH.nil
            refine step_app39 rfl (.tmp 16) (.tmp 19) rfl W.heap.size tv k (flat (sp.take k)) rfl OW.out gL u v rfl L0.out (by omega) HZ ?_
            intro v2 Y hown hgrow
            replace B0 := Lib.hid (Blk.grown B0.out hgrow (ownBlock_ne OW.out (show w.heap.size < W.heap.size by omega)))
            replace R0 := Lib.hid (Blk.grown R0.out hgrow (ownBlock_ne OW.out (show w.heap.size + 1 < W.heap.size by omega)))
            replace O0 := Lib.hid (Blk.grown O0.out hgrow (ownBlock_ne OW.out (show w.heap.size + 1 + 1 < W.heap.size by omega)))
            replace S0 := Lib.hid (Pt.grown S0.out hgrow NS.out)
            replace HB := Lib.hid (HB.out.grown hgrow HB.out.size (fun g hg => Nat.le_trans HWs.out (OW.out.lt g hg).1))
            replace HZ := Nat.le_trans HZ hgrow.size
            rw [HF.out] at hown
            replace OW := Lib.hid hown
            clear hgrow hown L0
            refine hK.out _ _ S0.out (fun hHeld => ?_)
            clear hK K
            show wpAnyH _ _ _ _ _ _ _ (Act.put _ (some 20) _) _
            simp only [Act.put, List.setIfInBounds_toArray, List.set_cons_zero, List.set_cons_succ]
            refine wpAnyH_take (i := 6) (v := .pointer (some ⟨w.heap.size + 1 + 1, 0, none⟩)) rfl (by kernel_rfl) (by kernel_rfl) (by kernel_rfl) (fun _ _ _ h => h) (Or.inl ⟨by rfl, by intro w' _; go_simp⟩) hHeld ?_
            show wpAnyH _ _ _ _ _ _ _ (Act.put _ (some 21) _) _
            simp only [Act.put, List.setIfInBounds_toArray, List.set_cons_zero, List.set_cons_succ]
            obtain ⟨a2, c2, rfl⟩ := own_slice OW.out
            refine wpAnyH_ready (rs := [7]) (by kernel_rfl) (by simp) ?_
            refine AllReadyH.cons rfl (fun K hK => ?_) AllReadyH.nil
            refine step_slice39 rfl (.tmp 21) (.tmp 20) rfl (w.heap.size + 1 + 1) 31 [tv, .slice none 0 0] tv rfl a2 (k + 1) c2 rfl rfl O0.out ?_
            replace B0 := Lib.hid (B0.out.far (p := ⟨w.heap.size + 1 + 1, 0, none⟩) (by show w.heap.size ≠ w.heap.size + 1 + 1; omega) (.slice a2 (k + 1) c2))
            replace R0 := Lib.hid (R0.out.far (p := ⟨w.heap.size + 1 + 1, 0, none⟩) (by show w.heap.size + 1 ≠ w.heap.size + 1 + 1; omega) (.slice a2 (k + 1) c2))
            replace S0 : Hid (Pt (Y.setCell ⟨w.heap.size + 1 + 1, 0, none⟩ (.slice a2 (k + 1) c2)) gS 56 u v) := Lib.hid (Blk.far S0.out (p := ⟨w.heap.size + 1 + 1, 0, none⟩) (by show gS ≠ w.heap.size + 1 + 1; omega) (.slice a2 (k + 1) c2))
            replace O0 := Lib.hid (O0.out.set_ 0 (.slice a2 (k + 1) c2))
            simp only [List.set_cons_zero] at O0
            replace OW := Lib.hid (ownsRow_far OW.out (p := ⟨w.heap.size + 1 + 1, 0, none⟩) (show w.heap.size + 1 + 1 < W.heap.size by omega) (.slice a2 (k + 1) c2))
            replace HB := Lib.hid (HB.out.setCell (p := ⟨w.heap.size + 1 + 1, 0, none⟩) (show w.heap.size ≤ w.heap.size + 1 + 1 by omega) (.slice a2 (k + 1) c2))
            replace HZ : W.heap.size ≤ (Y.setCell ⟨w.heap.size + 1 + 1, 0, none⟩ (.slice a2 (k + 1) c2)).heap.size := by simpa [World.setCell] using HZ
            refine hK.out _ _ S0.out (fun hHeld => ?_)
            clear hK K
            show wpAnyH _ _ _ _ _ _ _ (Act.put _ none _) _
            simp only [Act.put]
            refine wpAnyH_done (by kernel_rfl) ?_ _
            go_wp2
            go_roundw
            case rel => exact ⟨k + 1, _, by omega, by go_num, B0, R0, O0, OW, HB, HZ⟩
            case measure => simp [intOf] <;> omega
          · refine step_lay1 rfl (.tmp 18) rfl u v rfl ?_
            intro Y gL hL hB
            replace B0 := Lib.hid (B0.out.keep hB)
            replace R0 := Lib.hid (R0.out.keep hB)
            replace O0 := Lib.hid (O0.out.keep hB)
            replace S0 := Lib.hid (S0.out.keep hB)
            replace OW := Lib.hid (ownsRow_keep OW.out hB)
            replace HB := Lib.hid (HB.out.trans (hB.mono HB.out.size))
            replace HZ := Nat.le_trans HZ hB.size
            have L0 := Lib.hid hL
            clear hB hL
            refine hK.out _ _ S0.out (fun hHeld => ?_)
            clear hK K
            show wpAnyH _ _ _ _ _ _ _ (Act.put _ (some 19) _) _
            simp only [Act.put, List.setIfInBounds_toArray, List.set_cons_zero, List.set_cons_succ]
            refine wpAnyH_ready (rs := [1]) (by kernel_rfl) (by simp) ?_
            refine AllReadyH.cons rfl (fun K hK => ?_) AllReadyH.nil
            have k1 := O0.out.cell 0
            simp only [List.getElem?_cons_zero] at k1
            refine step_yield rfl tv (by unfold execOp; go_simp) ?_
            clear k1
            refine hK.out _ _ S0.out (fun hHeld => ?_)
            clear hK K
            show wpAnyH _ _ _ _ _ _ _ (Act.put _ (some 16) _) _
            simp only [Act.put, List.setIfInBounds_toArray, List.set_cons_zero, List.set_cons_succ]
            refine wpAnyH_ready (rs := [5]) (by kernel_rfl) (by simp) ?_
            refine AllReadyH.cons rfl (fun K hK => ?_) AllReadyH.nil
            refine step_app39 rfl (.tmp 16) (.tmp 19) rfl W.heap.size tv k (flat (sp.take k)) rfl OW.out gL u v rfl L0.out (by omega) HZ ?_
            intro v2 Y hown hgrow
            replace B0 := Lib.hid (Blk.grown B0.out hgrow (ownBlock_ne OW.out (show w.heap.size < W.heap.size by omega)))
            replace R0 := Lib.hid (Blk.grown R0.out hgrow (ownBlock_ne OW.out (show w.heap.size + 1 < W.heap.size by omega)))
            replace O0 := Lib.hid (Blk.grown O0.out hgrow (ownBlock_ne OW.out (show w.heap.size + 1 + 1 < W.heap.size by omega)))
            replace S0 := Lib.hid (Pt.grown S0.out hgrow NS.out)
            replace HB := Lib.hid (HB.out.grown hgrow HB.out.size (fun g hg => Nat.le_trans HWs.out (OW.out.lt g hg).1))
            replace HZ := Nat.le_trans HZ hgrow.size
            rw [HF.out] at hown
            replace OW := Lib.hid hown
            clear hgrow hown L0
            refine hK.out _ _ S0.out (fun hHeld => ?_)
            clear hK K
            show wpAnyH _ _ _ _ _ _ _ (Act.put _ (some 20) _) _
            simp only [Act.put, List.setIfInBounds_toArray, List.set_cons_zero, List.set_cons_succ]
            refine wpAnyH_take (i := 6) (v := .pointer (some ⟨w.heap.size + 1 + 1, 0, none⟩)) rfl (by kernel_rfl) (by kernel_rfl) (by kernel_rfl) (fun _ _ _ h => h) (Or.inl ⟨by rfl, by intro w' _; go_simp⟩) hHeld ?_
            show wpAnyH _ _ _ _ _ _ _ (Act.put _ (some 21) _) _
            simp only [Act.put, List.setIfInBounds_toArray, List.set_cons_zero, List.set_cons_succ]
            obtain ⟨a2, c2, rfl⟩ := own_slice OW.out
            refine wpAnyH_ready (rs := [7]) (by kernel_rfl) (by simp) ?_
            refine AllReadyH.cons rfl (fun K hK => ?_) AllReadyH.nil
            refine step_slice39 rfl (.tmp 21) (.tmp 20) rfl (w.heap.size + 1 + 1) 31 [tv, .slice none 0 0] tv rfl a2 (k + 1) c2 rfl rfl O0.out ?_
            replace B0 := Lib.hid (B0.out.far (p := ⟨w.heap.size + 1 + 1, 0, none⟩) (by show w.heap.size ≠ w.heap.size + 1 + 1; omega) (.slice a2 (k + 1) c2))
            replace R0 := Lib.hid (R0.out.far (p := ⟨w.heap.size + 1 + 1, 0, none⟩) (by show w.heap.size + 1 ≠ w.heap.size + 1 + 1; omega) (.slice a2 (k + 1) c2))
            replace S0 : Hid (Pt (Y.setCell ⟨w.heap.size + 1 + 1, 0, none⟩ (.slice a2 (k + 1) c2)) gS 56 u v) := Lib.hid (Blk.far S0.out (p := ⟨w.heap.size + 1 + 1, 0, none⟩) (by show gS ≠ w.heap.size + 1 + 1; omega) (.slice a2 (k + 1) c2))
            replace O0 := Lib.hid (O0.out.set_ 0 (.slice a2 (k + 1) c2))
            simp only [List.set_cons_zero] at O0
            replace OW := Lib.hid (ownsRow_far OW.out (p := ⟨w.heap.size + 1 + 1, 0, none⟩) (show w.heap.size + 1 + 1 < W.heap.size by omega) (.slice a2 (k + 1) c2))
            replace HB := Lib.hid (HB.out.setCell (p := ⟨w.heap.size + 1 + 1, 0, none⟩) (show w.heap.size ≤ w.heap.size + 1 + 1 by omega) (.slice a2 (k + 1) c2))
            replace HZ : W.heap.size ≤ (Y.setCell ⟨w.heap.size + 1 + 1, 0, none⟩ (.slice a2 (k + 1) c2)).heap.size := by simpa [World.setCell] using HZ
            refine hK.out _ _ S0.out (fun hHeld => ?_)
            clear hK K
            show wpAnyH _ _ _ _ _ _ _ (Act.put _ none _) _
            simp only [Act.put]
            refine wpAnyH_done (by kernel_rfl) ?_ _
            go_wp2
            go_roundw
            case rel => exact ⟨k + 1, _, by omega, by go_num, B0, R0, O0, OW, HB, HZ⟩
            case measure => simp [intOf] <;> omega
    · obtain rfl : sl = k := by omega
      have h4 := OW.out
      rw [List.take_of_length_le (by rw [HSL.out]; exact Nat.le_refl _)] at h4
      replace OW := Lib.hid h4
      clear h4
      have k1 := B0.out.cell 0
      have k2 := B0.out.cell 1
      simp only [List.getElem?_cons_zero, List.getElem?_cons_succ] at k1 k2
      go_wp2
      clear k1 k2
      go_loopw [7, 26] (fun _ i wq => ∃ (k : Nat) (ev : Value), k ≤ el ∧ i = .int .i64 k ∧ Hid (Blk wq (w.heap.size + 1) 31 [.slice none 0 0, .slice none 0 0]) ∧ Hid (Blk wq (w.heap.size + 1 + 1) 31 [tv, ev]) ∧ Hid (wq.ownsRow W.heap.size 62 2 tv sl (flat sp)) ∧ Hid (wq.ownsRow W.heap.size 52 8 ev k (eflat (es.take k))) ∧ Hid (Below w.heap.size w wq) ∧ W.heap.size ≤ wq.heap.size) (fun _ i _ => el - (intOf i).toNat)
      case atStart => exact ⟨0, .slice none 0 0, Nat.zero_le _, rfl, R0, O0, OW, Lib.hid ⟨rfl, .inl ⟨rfl, rfl⟩⟩, HB, HZ⟩
      case round =>
        clear B0 R0 O0 OW HB HZ
        obtain ⟨k, ev, hk, rfl, R0, O0, OW, EW, HB, HZ⟩ := hrel
        by_cases hlt : k < el
        · obtain ⟨z, hz⟩ : ∃ z, es.getD k ed0 = z := ⟨_, rfl⟩
          obtain ⟨pe, qe, ce, de, fe, ge, he, ie⟩ := z
          rcases HE.out with h0 | ⟨b0, off, rfl, hb, hc⟩
          · exfalso; have h := HEL.out; rw [h0] at h; simp at h; omega
          · have hcs := hc k (by rw [HEL.out]; exact hlt)
            rw [hz] at hcs
            have HF : Hid (eflat (es.take k) ++ [.int .i64 pe, .int .i64 qe, .int .u64 ce, .int .u64 de, .int .u64 fe, .int .u64 ge, .int .u64 he, .int .u64 ie] = eflat (es.take (k + 1))) := Lib.hid (eflat_snoc es k ⟨pe, qe, ce, de, fe, ge, he, ie⟩ (by rw [HEL.out]; exact hlt) hz)
            clear hz hc
            have e0 : wr.cell? ⟨b0, off + k * 8, none⟩ = some (.int .i64 pe) := (HB.out.cell (p := ⟨b0, off + k * 8, none⟩) hb).trans (hcs 0 _ rfl)
            have e1 : wr.cell? ⟨b0, off + k * 8 + 1, none⟩ = some (.int .i64 qe) := (HB.out.cell (p := ⟨b0, off + k * 8 + 1, none⟩) hb).trans (hcs 1 _ rfl)
            have e2 : wr.cell? ⟨b0, off + k * 8 + 2, none⟩ = some (.int .u64 ce) := (HB.out.cell (p := ⟨b0, off + k * 8 + 2, none⟩) hb).trans (hcs 2 _ rfl)
            have e3 : wr.cell? ⟨b0, off + k * 8 + 3, none⟩ = some (.int .u64 de) := (HB.out.cell (p := ⟨b0, off + k * 8 + 3, none⟩) hb).trans (hcs 3 _ rfl)
            have e4 : wr.cell? ⟨b0, off + k * 8 + 4, none⟩ = some (.int .u64 fe) := (HB.out.cell (p := ⟨b0, off + k * 8 + 4, none⟩) hb).trans (hcs 4 _ rfl)
            have e5 : wr.cell? ⟨b0, off + k * 8 + 5, none⟩ = some (.int .u64 ge) := (HB.out.cell (p := ⟨b0, off + k * 8 + 5, none⟩) hb).trans (hcs 5 _ rfl)
            have e6 : wr.cell? ⟨b0, off + k * 8 + 6, none⟩ = some (.int .u64 he) := (HB.out.cell (p := ⟨b0, off + k * 8 + 6, none⟩) hb).trans (hcs 6 _ rfl)
            have e7 : wr.cell? ⟨b0, off + k * 8 + 7, none⟩ = some (.int .u64 ie) := (HB.out.cell (p := ⟨b0, off + k * 8 + 7, none⟩) hb).trans (hcs 7 _ rfl)
            clear hcs
            have hb3 : b0 < wr.heap.size := Nat.lt_of_lt_of_le hb HB.out.size
            have k1 := O0.out.cell 1
            simp only [List.getElem?_cons_zero, List.getElem?_cons_succ] at k1
            have k3 := O0.out.lt
            obtain ⟨i0, hi, hz0, hz1, hz2⟩ := info_parts edge_info
            go_wp2_with (at_builtin; refine wpList_append_own _ rfl (.tmp 31) (.tmp 56) 29 rfl W.heap.size 52 i0 (.agg #[.int .i64 0, .int .i64 0, .int .u64 0, .int .u64 0, .int .u64 0, .int .u64 0, .int .u64 0, .int .u64 0]) 8 64 Try.underlying29 hi hz0 hz1 hz2 rfl (by decide) _ k (eflat (es.take k)) rfl ((EW.out.alloc _).alloc _) ⟨wr.heap.size + 1, 0, none⟩ 1 1 [.int .i64 pe, .int .i64 qe, .int .u64 ce, .int .u64 de, .int .u64 fe, .int .u64 ge, .int .u64 he, .int .u64 ie] rfl rfl ?c1 ?c2 ?c3 ?c4 ?c5 ?_)
            case c1 =>
              intro j z hj
              match j, hj with
              | 0, hj => simp at hj; subst hj; simp [Addr.add]
              | 1, hj => simp at hj; subst hj; simp [Addr.add]
              | 2, hj => simp at hj; subst hj; simp [Addr.add]
              | 3, hj => simp at hj; subst hj; simp [Addr.add]
              | 4, hj => simp at hj; subst hj; simp [Addr.add]
              | 5, hj => simp at hj; subst hj; simp [Addr.add]
              | 6, hj => simp at hj; subst hj; simp [Addr.add]
              | 7, hj => simp at hj; subst hj; simp [Addr.add]
            case c2 => intro z hz; simp at hz; rcases hz with rfl | rfl | rfl | rfl | rfl | rfl | rfl | rfl <;> rfl
            case c3 => unfold maxLen; omega
            case c4 => omega
            case c5 => simp; omega
            intro v2 w1 hown hgrow _
            have NE1 : tv.ownBlock = none ∨ tv.ownBlock ≠ ev.ownBlock := own_apart OW.out EW.out (by decide)
            replace R0 := Lib.hid (Blk.grown ((R0.out.alloc (.cells #[.int .i64 pe, .int .i64 qe, .int .u64 ce, .int .u64 de, .int .u64 fe, .int .u64 ge, .int .u64 he, .int .u64 ie] 102)).alloc (.cells #[.int .i64 pe, .int .i64 qe, .int .u64 ce, .int .u64 de, .int .u64 fe, .int .u64 ge, .int .u64 he, .int .u64 ie] 52)) hgrow (ownBlock_ne EW.out (show w.heap.size + 1 < W.heap.size by omega)))
            replace O0 := Lib.hid (Blk.grown ((O0.out.alloc (.cells #[.int .i64 pe, .int .i64 qe, .int .u64 ce, .int .u64 de, .int .u64 fe, .int .u64 ge, .int .u64 he, .int .u64 ie] 102)).alloc (.cells #[.int .i64 pe, .int .i64 qe, .int .u64 ce, .int .u64 de, .int .u64 fe, .int .u64 ge, .int .u64 he, .int .u64 ie] 52)) hgrow (ownBlock_ne EW.out (show w.heap.size + 1 + 1 < W.heap.size by omega)))
            replace OW := Lib.hid (World.ownsRow.kept ((OW.out.alloc (.cells #[.int .i64 pe, .int .i64 qe, .int .u64 ce, .int .u64 de, .int .u64 fe, .int .u64 ge, .int .u64 he, .int .u64 ie] 102)).alloc (.cells #[.int .i64 pe, .int .i64 qe, .int .u64 ce, .int .u64 de, .int .u64 fe, .int .u64 ge, .int .u64 he, .int .u64 ie] 52)) hgrow NE1)
            replace HB := Lib.hid (((HB.out.alloc HB.out.size (.cells #[.int .i64 pe, .int .i64 qe, .int .u64 ce, .int .u64 de, .int .u64 fe, .int .u64 ge, .int .u64 he, .int .u64 ie] 102)).alloc (by have h := HB.out.size; simp; omega) (.cells #[.int .i64 pe, .int .i64 qe, .int .u64 ce, .int .u64 de, .int .u64 fe, .int .u64 ge, .int .u64 he, .int .u64 ie] 52)).grown hgrow (by have h := HB.out.size; simp; omega) (fun g hg => Nat.le_trans HWs.out (EW.out.lt g hg).1))
            replace HZ : W.heap.size ≤ w1.heap.size := Nat.le_trans (by simp; omega) hgrow.size
            rw [HF.out] at hown
            replace EW := Lib.hid hown
            obtain ⟨a2, c2, rfl⟩ := own_slice EW.out
            clear hown hgrow NE1 e0 e1 e2 e3 e4 e5 e6 e7 hb3 k1 k3
            have k1 := O0.out.cell 1
            simp only [List.getElem?_cons_zero, List.getElem?_cons_succ] at k1
            have k2 := O0.out.frozen 1
            have HR1 := Lib.hid (R0.out.far (p := ⟨w.heap.size + 1 + 1, 1, none⟩) (by show w.heap.size + 1 ≠ w.heap.size + 1 + 1; omega) (.slice a2 (k + 1) c2))
            have HO1 := Lib.hid (O0.out.set_ 1 (.slice a2 (k + 1) c2))
            simp only [List.set_cons_zero, List.set_cons_succ] at HO1
            have HOW1 := Lib.hid (ownsRow_far OW.out (p := ⟨w.heap.size + 1 + 1, 1, none⟩) (show w.heap.size + 1 + 1 < W.heap.size by omega) (.slice a2 (k + 1) c2))
            have HEW1 := Lib.hid (ownsRow_far EW.out (p := ⟨w.heap.size + 1 + 1, 1, none⟩) (show w.heap.size + 1 + 1 < W.heap.size by omega) (.slice a2 (k + 1) c2))
            have HB1 := Lib.hid (HB.out.setCell (p := ⟨w.heap.size + 1 + 1, 1, none⟩) (show w.heap.size ≤ w.heap.size + 1 + 1 by omega) (.slice a2 (k + 1) c2))
            have HZ1 : W.heap.size ≤ (w1.setCell ⟨w.heap.size + 1 + 1, 1, none⟩ (.slice a2 (k + 1) c2)).heap.size := by simpa [World.setCell] using HZ
            go_wp2
            go_roundw
            case rel => exact ⟨k + 1, _, by omega, by go_num, HR1, HO1, HOW1, HEW1, HB1, HZ1⟩
            case measure => simp [intOf] <;> omega
        · obtain rfl : el = k := by omega
          have h4 := EW.out
          rw [List.take_of_length_le (by rw [HEL.out]; exact Nat.le_refl _)] at h4
          rw [← HEL.out] at h4
          have h5 := OW.out
          rw [← HSL.out] at h5
          obtain ⟨a3, c3, e3, r3⟩ := EdgeRow.of_own h4
          obtain ⟨a4, c4, e4, r4⟩ := SpotRow.of_own h5
          rw [HEL.out] at e3
          rw [HSL.out] at e4
          subst e3
          subst e4
          have k1 := O0.out.cell 0
          have k2 := O0.out.cell 1
          have k3 := R0.out.cell 0
          have k4 := R0.out.cell 1
          simp only [List.getElem?_cons_zero, List.getElem?_cons_succ] at k1 k2 k3 k4
          have k5 := R0.out.frozen 0
          have k6 := R0.out.frozen 1
          have H3 : Hid (∀ x y, EdgeRow ((wr.setCell ⟨w.heap.size + 1, 0, none⟩ x).setCell ⟨w.heap.size + 1, 1, none⟩ y) a3 es) := Lib.hid fun x y => EdgeRow.own' (ownsRow_far (ownsRow_far h4 (p := ⟨w.heap.size + 1, 0, none⟩) (show w.heap.size + 1 < W.heap.size by omega) x) (p := ⟨w.heap.size + 1, 1, none⟩) (show w.heap.size + 1 < W.heap.size by omega) y)
          have H4 : Hid (∀ x y, SpotRow ((wr.setCell ⟨w.heap.size + 1, 0, none⟩ x).setCell ⟨w.heap.size + 1, 1, none⟩ y) a4 sp) := Lib.hid fun x y => SpotRow.own' (ownsRow_far (ownsRow_far h5 (p := ⟨w.heap.size + 1, 0, none⟩) (show w.heap.size + 1 < W.heap.size by omega) x) (p := ⟨w.heap.size + 1, 1, none⟩) (show w.heap.size + 1 < W.heap.size by omega) y)
          have H5 : Hid (a4 = none → sp = [] ∧ c4 = 0) := Lib.hid fun e => ⟨List.eq_nil_of_length_eq_zero (own_nil h5 e).1, (own_nil h5 e).2⟩
          have H6 : Hid (a3 = none → es = [] ∧ c3 = 0) := Lib.hid fun e => ⟨List.eq_nil_of_length_eq_zero (own_nil h4 e).1, (own_nil h4 e).2⟩
          clear h4 h5 r3 r4 OW EW
          go_wp2
          exact bodyPost_ret (result58 Try.results15 _ _ (w.heap.size + 1) 31 _ _ _ _ _ _ rfl (Blk.set_ (Blk.set_ R0.out 0 (.slice a4 sl c4)) 1 (.slice a3 el c3))) rfl ⟨a4, c4, a3, c3, rfl, H4.out _ _, H3.out _ _, H5.out, H6.out, (HB.out.setCell (show w.heap.size ≤ w.heap.size + 1 by omega) _).setCell (show w.heap.size ≤ w.heap.size + 1 by omega) _⟩
end Go.Proofs.Ytnnimjaigciedaa
