/-
  SlabPlays: a step, done to a slab and as the document says (9).
-/
import Derived.Test.YtjkpdfdcjhnjdaaSlH
namespace Go.Proofs.Ytjkpdfdcjhnjdaa
open Go.RowKit
set_option linter.unusedVariables false

/-- A slab, and the document's, alike. -/
structure Pr (w0 w : World) (b : Nat) (v : Value) (s : SS) (bm : Nat) : Prop where
  A : AtS w w0.heap.size b v s
  R : RefAt w (Of b v) bm s
  B : Below w0.heap.size w0 w
  ub : w0.heap.size ≤ b
  um : w0.heap.size ≤ bm
theorem Pr.keep {w0 w w' : World} {b : Nat} {v : Value} {s : SS} {bm : Nat} (h : Pr w0 w b v s bm) (hB : Below w.heap.size w w') : Pr w0 w' b v s bm := ⟨h.A.keep hB, h.R.below hB, h.B.trans (hB.mono h.B.size), h.ub, h.um⟩
theorem RefAt.step {w w' : World} {S T : Nat → Prop} {bm : Nat} {s : SS} (h : RefAt w S bm s) (ho : OnlyS S w w') (hT : ∀ i, T i → S i ∨ w.heap.size ≤ i) : RefAt w' T bm s := by
  have h1 := h.turn (T := fun i => S i ∨ T i) (fun i h => h.elim .inl (hT i))
  exact (h1.onlyS (ho.mono fun i h => .inl h)).turn (fun i h => .inl (.inr h))
theorem Lies.of {w : World} {b : Nat} {v v2 : Value} (h : Lies w v v2) : ∀ i, Of b v2 i → Of b v i ∨ w.heap.size ≤ i := by
  rintro i (rfl | hi)
  · exact .inl (.inl rfl)
  · rcases h with h | ⟨g, h1, h2⟩
    · exact .inl (.inr (by rw [← h]; exact hi))
    · rw [hi] at h2
      injection h2 with h2
      exact .inr (by omega)
theorem eraT {w : World} {b : Nat} {v : Value} (s : SS) : ∀ i, Of b (eraV s v) i → Of b v i ∨ w.heap.size ≤ i := by
  rintro i (rfl | hi)
  · exact .inl (.inl rfl)
  · unfold eraV at hi
    split at hi
    · cases hi
    · exact .inl (.inr hi)
theorem of_not29 {w : World} {base b go : Nat} {v : Value} {s : SS} {cs : List Value} (h : AtS w base b v s) (ho : Blk w go 29 cs) : ¬ Of b v go := by
  rintro (e | e)
  · exact Blk.ne_ ho h.top (by decide) e
  · exact h.row.ne ho (by decide) e
theorem RefAt.not29 {w : World} {S : Nat → Prop} {bm go : Nat} {s : SS} {cs : List Value} (h : RefAt w S bm s) (ho : Blk w go 29 cs) : go ≠ bm := by
  obtain ⟨⟨vS, vL, h1, _⟩, _⟩ := h
  exact Blk.ne_ ho h1 (by decide)

def DoesPost (w0 : World) (b bm : Nat) (e : Ending) (w' : World) : Prop := ∃ v' s', e = .returned (.bool true) ∧ Pr w0 w' b v' s' bm
set_option maxRecDepth 100000 in
set_option maxHeartbeats 8000000 in
theorem does_any (w0 w : World) (b : Nat) (v : Value) (s : SS) (bm : Nat) (z0 z1 z2 : Int) (ap : Option Addr) (np cp : Nat) (l : List Int) (h : Pr w0 w b v s bm) (hl : np = l.length) (hS : Src w0 ap cp l) (hnp : np ≤ 1048576)
    (h1 : -9223372036854775808 ≤ z1 ∧ z1 ≤ 9223372036854775807) :
    Calls Try.prog 9 #[.pointer (some ⟨b, 0, none⟩), .pointer (some ⟨bm, 0, none⟩), .agg #[.int .i64 z0, .int .i64 z1, .int .i64 z2, .slice ap np cp]] w (DoesPost w0 b bm) := by
  have hBo : Below w.heap.size w (w.alloc (.cells #[.int .i64 z0, .int .i64 z1, .int .i64 z2, .slice ap np cp] 29)) := (Below.refl _ _).alloc (Nat.le_refl _) _
  have hp := h.keep hBo
  have AV := Lib.hid hp.A
  have RV := Lib.hid hp.R
  have BV := Lib.hid hp.B
  have HUB := Lib.hid hp.ub
  have HUM := Lib.hid hp.um
  have OV : Hid (Blk (w.alloc (.cells #[.int .i64 z0, .int .i64 z1, .int .i64 z2, .slice ap np cp] 29)) w.heap.size 29 [.int .i64 z0, .int .i64 z1, .int .i64 z2, .slice ap np cp]) := Lib.hid (Blk.new w 29 _)
  have PV := Lib.hid (hS.below hp.B)
  have HLN := Lib.hid hl
  have HPL : Hid (l.length ≤ 9223372036854775807) := Lib.hid (by omega)
  have HPL2 : Hid (l.length ≤ 1048576) := Lib.hid (by omega)
  have HPO : Hid (l = [] ∨ ∀ a, ap = some a → a.block < w0.heap.size) := Lib.hid (by
    rcases hS.2 with h | ⟨b9, o9, h9, h8, _⟩
    · exact .inl h
    · exact .inr (by rintro a ha; rw [h9] at ha; injection ha with ha; subst ha; exact h8))
  have HPB : Hid (l = [] ∨ ∀ a, ap = some a → a.block ≠ b) := Lib.hid (HPO.out.elim .inl (fun h9 => .inr (fun a ha => by have := h9 a ha; have := HUB.out; omega)))
  have HPM : Hid (l = [] ∨ ∀ a, ap = some a → a.block ≠ bm) := Lib.hid (HPO.out.elim .inl (fun h9 => .inr (fun a ha => by have := h9 a ha; have := HUM.out; omega)))
  have HSK : Hid (s.k ≤ s.l.length ∧ s.l.length ≤ 262144 ∧ -1 ≤ s.fu ∧ s.fu ≤ 9223372036854775807) := Lib.hid ⟨hp.A.kl, hp.A.small, hp.A.f1, hp.A.f2⟩
  have HZ1 := Lib.hid h1
  clear h hp hBo hS hl hnp h1
  go_enter Try.func9, Try.ntmps9
  by_cases hz : z0 = 0
  · subst hz
    go_upto_region 3 with fail
    generalize w.alloc (.cells #[.int .i64 0, .int .i64 z1, .int .i64 z2, .slice ap np cp] 29) = V at OV AV RV BV PV ⊢
    generalize w.heap.size = go at OV ⊢
    have hBz : Below V.heap.size V V.drew := below_drewN (Below.refl _ _) 1
    have OX0 : Hid (Blk V.drew go 29 [.int .i64 0, .int .i64 z1, .int .i64 z2, .slice ap np cp]) := Lib.hid (OV.out.below hBz OV.out.lt)
    have AX0 : Hid (AtS V.drew w0.heap.size b v s) := Lib.hid (AV.out.keep hBz)
    have RX0 : Hid (RefAt V.drew (Of b v) bm s) := Lib.hid (RV.out.below hBz)
    have BX0 : Hid (Below w0.heap.size w0 V.drew) := Lib.hid (BV.out.trans (hBz.mono BV.out.size))
    have PX0 : Hid (Src V.drew ap cp l) := Lib.hid (PV.out.below hBz)
    clear hBz
    refine wp_region_held_drew (S := fun w' => Blk w' go 29 [.int .i64 0, .int .i64 z1, .int .i64 z2, .slice ap np cp]) (by kernel_rfl) (OX0.out) (fun hHeld => ?_)
    generalize V.drew = X0 at hHeld OX0 AX0 RX0 BX0 PX0 ⊢
    refine wpAnyH_take (i := 0) (v := .pointer (some ⟨b, 0, none⟩)) rfl (by kernel_rfl) (by kernel_rfl) (by kernel_rfl) (fun _ _ _ h => h) (Or.inl ⟨by rfl, fun w _ => by rfl⟩) hHeld ?_
    show wpAnyH _ _ _ _ _ _ _ (Act.put _ (some 11) _) _
    simp only [Act.put, List.setIfInBounds_toArray, List.set_cons_zero, List.set_cons_succ]
    refine wpAnyH_take (i := 1) (v := .pointer (some ⟨go, 3, none⟩)) rfl (by kernel_rfl) (by kernel_rfl) (by kernel_rfl) (fun _ _ _ h => h) (Or.inl ⟨by rfl, by intro w' h; go_simp⟩) hHeld ?_
    show wpAnyH _ _ _ _ _ _ _ (Act.put _ (some 12) _) _
    simp only [Act.put, List.setIfInBounds_toArray, List.set_cons_zero, List.set_cons_succ]
    refine wpAnyH_take (i := 2) (v := .slice ap np cp) rfl (by kernel_rfl) (by kernel_rfl) (by kernel_rfl) (fun _ _ _ h => h) (Or.inl ⟨by rfl, by intro w' h; have q9 := Blk.cell h 3; go_simp⟩) hHeld ?_
    show wpAnyH _ _ _ _ _ _ _ (Act.put _ (some 13) _) _
    simp only [Act.put, List.setIfInBounds_toArray, List.set_cons_zero, List.set_cons_succ]
    refine wpAnyH_take (i := 4) (v := .pointer (some ⟨bm, 0, none⟩)) rfl (by kernel_rfl) (by kernel_rfl) (by kernel_rfl) (fun _ _ _ h => h) (Or.inl ⟨by rfl, fun w _ => by rfl⟩) hHeld ?_
    show wpAnyH _ _ _ _ _ _ _ (Act.put _ (some 15) _) _
    simp only [Act.put, List.setIfInBounds_toArray, List.set_cons_zero, List.set_cons_succ]
    refine wpAnyH_take (i := 5) (v := .pointer (some ⟨go, 3, none⟩)) rfl (by kernel_rfl) (by kernel_rfl) (by kernel_rfl) (fun _ _ _ h => h) (Or.inl ⟨by rfl, by intro w' h; go_simp⟩) hHeld ?_
    show wpAnyH _ _ _ _ _ _ _ (Act.put _ (some 16) _) _
    simp only [Act.put, List.setIfInBounds_toArray, List.set_cons_zero, List.set_cons_succ]
    refine wpAnyH_take (i := 6) (v := .slice ap np cp) rfl (by kernel_rfl) (by kernel_rfl) (by kernel_rfl) (fun _ _ _ h => h) (Or.inl ⟨by rfl, by intro w' h; have q9 := Blk.cell h 3; go_simp⟩) hHeld ?_
    show wpAnyH _ _ _ _ _ _ _ (Act.put _ (some 17) _) _
    simp only [Act.put, List.setIfInBounds_toArray, List.set_cons_zero, List.set_cons_succ]
    refine wpAnyH_ready (rs := [3]) (by kernel_rfl) (by simp) ?_
    refine AllReadyH.cons rfl (fun K hK => ?_) AllReadyH.nil
    refine step_call rfl 12 #[.tmp 11, .tmp 13] #[23, 27] rfl #[.pointer (some ⟨b, 0, none⟩), .slice ap np cp] (by simp [Act.eval]) (by go_simp) (app_gen w0.heap.size b v s l ap np cp X0 AX0.out HLN.out PX0.out HPB.out BX0.out.size HPL.out) ?_
    rintro e X1 ⟨v2, rfl, hA2, ho2, hL2⟩
    have HT2 : Hid (∀ i, Of b v2 i → Of b v i ∨ X0.heap.size ≤ i) := Lib.hid (Lies.of hL2)
    have HOb : Hid (∀ i, Of b v i → i < X0.heap.size) := Lib.hid AX0.out.lt
    have OX1 : Hid (Blk X1 go 29 [.int .i64 0, .int .i64 z1, .int .i64 z2, .slice ap np cp]) := Lib.hid (OX0.out.onlyS ho2 (of_not29 AX0.out OX0.out))
    have AX1 : Hid (AtS X1 w0.heap.size b v2 (appS s l)) := Lib.hid (hA2)
    have RX1 : Hid (RefAt X1 (Of b v2) bm s) := Lib.hid (RX0.out.step ho2 HT2.out)
    have BX1 : Hid (Below w0.heap.size w0 X1) := Lib.hid (BX0.out.trans (ho2.below (AX0.out.up HUB.out) BX0.out.size))
    have PX1 : Hid (Src X1 ap cp l) := Lib.hid (PX0.out.onlyE ho2 (HPO.out.elim .inl (fun h9 => .inr (fun a ha hof => by have h8 := h9 a ha; have h7 := AX0.out.up HUB.out _ hof; omega))))
    clear hA2 ho2 hL2 OX0 AX0 RX0 BX0 PX0
    refine ⟨_, rfl, hK.out _ _ (OX1.out) (fun hHeld => ?_)⟩
    clear hK K
    show wpAnyH _ _ _ _ _ _ _ (Act.put _ (some 14) _) _
    simp only [Act.put, List.setIfInBounds_toArray, List.set_cons_zero, List.set_cons_succ]
    refine wpAnyH_ready (rs := [7]) (by kernel_rfl) (by simp) ?_
    refine AllReadyH.cons rfl (fun K hK => ?_) AllReadyH.nil
    refine step_call rfl 21 #[.tmp 15, .tmp 17] #[25, 27] rfl #[.pointer (some ⟨bm, 0, none⟩), .slice ap np cp] (by simp [Act.eval]) (by go_simp) (rapp_gen (Of b v2) bm s X1 l ap np cp RX1.out AX1.out.lt HLN.out PX1.out HPM.out HPL2.out HSK.out.1 HSK.out.2.1 HSK.out.2.2.1 HSK.out.2.2.2) ?_
    rintro e X2 ⟨rfl, hR2, ho2⟩
    have OX2 : Hid (Blk X2 go 29 [.int .i64 0, .int .i64 z1, .int .i64 z2, .slice ap np cp]) := Lib.hid (OX1.out.onlyS ho2 (fun e => RX1.out.not29 OX1.out e))
    have AX2 : Hid (AtS X2 w0.heap.size b v2 (appS s l)) := Lib.hid (AX1.out.onlyS ho2 (fun i hi e => RX1.out.off (e ▸ hi)))
    have RX2 : Hid (RefAt X2 (Of b v2) bm (appS s l)) := Lib.hid (hR2)
    have BX2 : Hid (Below w0.heap.size w0 X2) := Lib.hid (BX1.out.trans (ho2.below (by rintro i rfl; exact HUM.out) BX1.out.size))
    have PX2 : Hid (Src X2 ap cp l) := Lib.hid (PX1.out.onlyE ho2 (HPO.out.elim .inl (fun h9 => .inr (fun a ha hof => by have h8 := h9 a ha; have h7 := HUM.out; omega))))
    clear hR2 ho2 OX1 AX1 RX1 BX1 PX1
    refine ⟨_, rfl, hK.out _ _ (OX2.out) (fun hHeld => ?_)⟩
    clear hK K
    show wpAnyH _ _ _ _ _ _ _ (Act.put _ (some 18) _) _
    simp only [Act.put, List.setIfInBounds_toArray, List.set_cons_zero, List.set_cons_succ]
    refine wpAnyH_take (i := 8) (v := .bool true) rfl (by kernel_rfl) (by kernel_rfl) (by kernel_rfl) (fun _ _ _ h => h) (Or.inl ⟨by rfl, by intro w' h; go_simp⟩) hHeld ?_
    show wpAnyH _ _ _ _ _ _ _ (Act.put _ (some 19) _) _
    simp only [Act.put, List.setIfInBounds_toArray, List.set_cons_zero, List.set_cons_succ]
    refine wpAnyH_take (i := 9) (v := .bool true) rfl (by kernel_rfl) (by kernel_rfl) (by kernel_rfl) (fun _ _ _ h => h) (Or.inl ⟨by rfl, fun w _ => by rfl⟩) hHeld ?_
    show wpAnyH _ _ _ _ _ _ _ (Act.put _ (some 6) _) _
    simp only [Act.put, List.setIfInBounds_toArray, List.set_cons_zero, List.set_cons_succ]
    refine wpAnyH_done (by kernel_rfl) ?_ _
    clear hHeld
    go_wp2
    go_ret
    exact ⟨v2, appS s l, rfl, ⟨AX2.out, RX2.out, BX2.out, HUB.out, HUM.out⟩⟩
  by_cases hz : z0 = 1
  · subst hz
    go_upto_region 5 with fail
    generalize w.alloc (.cells #[.int .i64 1, .int .i64 z1, .int .i64 z2, .slice ap np cp] 29) = V at OV AV RV BV PV ⊢
    generalize w.heap.size = go at OV ⊢
    clear OV PV
    go_wp2_with fail
    refine (syn_any w0.heap.size b v s V AV.out).mono ?_
    rintro e W1 ⟨rfl, hA, ho⟩
    have A1 := Lib.hid hA
    have B1 := Lib.hid (BV.out.trans (ho.below (by rintro i rfl; exact HUB.out) BV.out.size))
    have R1 : Hid (RefAt W1 (Of b v) bm s) := Lib.hid (RV.out.step (ho.mono (fun i hi => .inl hi)) (fun i hi => .inl hi))
    clear hA ho AV BV RV
    go_wp2_with fail
    refine (rsyn_any (Of b v) bm s W1 R1.out A1.out.lt HSK.out.1 HSK.out.2.1 HSK.out.2.2.1 HSK.out.2.2.2).mono ?_
    rintro e W2 ⟨rfl, hR, ho⟩
    have R2 := Lib.hid hR
    have A2 := Lib.hid (A1.out.onlyS ho (fun i hi e => R1.out.off (e ▸ hi)))
    have B2 := Lib.hid (B1.out.trans (ho.below (by rintro i rfl; exact HUM.out) B1.out.size))
    clear hR ho A1 B1 R1
    go_wp2
    go_ret
    exact ⟨_, _, rfl, ⟨A2.out, R2.out, B2.out, HUB.out, HUM.out⟩⟩

  by_cases hz : z0 = 2
  · subst hz
    go_upto_region 7 with fail
    generalize w.alloc (.cells #[.int .i64 2, .int .i64 z1, .int .i64 z2, .slice ap np cp] 29) = V at OV AV RV BV PV ⊢
    generalize w.heap.size = go at OV ⊢
    clear OV PV
    go_wp2_with fail
    refine (era_any w0.heap.size b v s V AV.out).mono ?_
    rintro e W1 ⟨rfl, hA, ho⟩
    have A1 := Lib.hid hA
    have B1 := Lib.hid (BV.out.trans (ho.below (by rintro i rfl; exact HUB.out) BV.out.size))
    have R1 : Hid (RefAt W1 (Of b (eraV s v)) bm s) := Lib.hid (RV.out.step (ho.mono (fun i hi => .inl hi)) (eraT s))
    clear hA ho AV BV RV
    go_wp2_with fail
    refine (rera_any (Of b (eraV s v)) bm s W1 R1.out HSK.out.2.1 HSK.out.2.2.1 HSK.out.2.2.2).mono ?_
    rintro e W2 ⟨rfl, hR, ho⟩
    have R2 := Lib.hid hR
    have A2 := Lib.hid (A1.out.onlyS ho (fun i hi e => R1.out.off (e ▸ hi)))
    have B2 := Lib.hid (B1.out.trans (ho.below (by rintro i rfl; exact HUM.out) B1.out.size))
    clear hR ho A1 B1 R1
    go_wp2
    go_ret
    exact ⟨_, _, rfl, ⟨A2.out, R2.out, B2.out, HUB.out, HUM.out⟩⟩

  by_cases hz : z0 = 3
  · subst hz
    go_upto_region 9 with fail
    generalize w.alloc (.cells #[.int .i64 3, .int .i64 z1, .int .i64 z2, .slice ap np cp] 29) = V at OV AV RV BV PV ⊢
    generalize w.heap.size = go at OV ⊢
    clear PV
    have hm4 : V.cell? ⟨bm, 4, none⟩ = some (.bool s.dn) := by obtain ⟨⟨vS, vL, hT, _⟩, _⟩ := RV.out; exact hT.cell 4
    have o1 : V.cell? ⟨go, 1, none⟩ = some (.int .i64 z1) := OV.out.cell 1
    by_cases hd : s.dn = true
    · have HD := Lib.hid hd
      rw [hd] at hm4
      clear hd
      go_wp2_with fail
      refine (fus_any w0.heap.size b v s z1 V AV.out HZ1.out.2).mono ?_
      rintro e W1 ⟨rfl, hA, ho⟩
      rw [show chkE s.dn = 5 by rw [HD.out]; rfl]
      have A1 := Lib.hid hA
      have B1 := Lib.hid (BV.out.trans (ho.below (by rintro i rfl; exact HUB.out) BV.out.size))
      have R1 : Hid (RefAt W1 (Of b v) bm (fusS s z1)) := Lib.hid (by rw [show fusS s z1 = s by unfold fusS; rw [if_pos HD.out]]; exact RV.out.step (ho.mono (fun i hi => .inl hi)) (fun i hi => .inl hi))
      clear hA ho AV BV RV OV o1 hm4
      go_wp2
      go_ret
      exact ⟨_, _, rfl, ⟨A1.out, R1.out, B1.out, HUB.out, HUM.out⟩⟩
    · have HD := Lib.hid hd
      have hd' : s.dn = false := by cases e : s.dn; rfl; exact absurd e hd
      rw [hd'] at hm4
      obtain ⟨⟨vS, vL, hT, hrS, hrL⟩, hoff⟩ := RV.out
      have hm2 : V.cell? ⟨bm, 2, none⟩ = some (.int .i64 s.fu) := hT.cell 2
      have hf2 := hT.frozen 2
      have hOm : OnlyS (fun i => i = bm) V (V.setCell ⟨bm, 2, none⟩ (.int .i64 (mx z1))) := (OnlyS.refl (fun i => i = bm) V).setCell (p := ⟨bm, 2, none⟩) (.inl rfl) _
      have R1 : Hid (RefAt (V.setCell ⟨bm, 2, none⟩ (.int .i64 (mx z1))) (Of b v) bm (fusS s z1)) := Lib.hid (by
        rw [show fusS s z1 = ⟨s.l, s.k, s.st, mx z1, s.dn⟩ by unfold fusS; rw [if_neg HD.out]]
        exact RefAt.mine hrS hrL hOm hoff s.st (mx z1) s.dn (hT.set_ 2 (.int .i64 (mx z1))))
      have A1 := Lib.hid (AV.out.onlyS hOm (fun i hi e => hoff (e ▸ hi)))
      have B1 := Lib.hid (BV.out.trans (hOm.below (by rintro i rfl; exact HUM.out) BV.out.size))
      have O1 := Lib.hid (OV.out.onlyS hOm (fun e => RV.out.not29 OV.out e))
      have o2 : (V.setCell ⟨bm, 2, none⟩ (.int .i64 (mx z1))).cell? ⟨go, 1, none⟩ = some (.int .i64 z1) := O1.out.cell 1
      have HDE : Hid (chkE s.dn = 0) := Lib.hid (by unfold chkE; rw [if_neg HD.out])
      clear hd hd' hT hrS hrL hoff hOm RV AV BV OV O1
      by_cases hm : z1 < -1
      · have e1 : mx z1 = -1 := if_pos hm
        rw [e1] at o2 A1 B1 R1
        go_wp2_with fail
        clear o1 o2 hm2 hm4
        generalize V.setCell ⟨bm, 2, none⟩ (.int .i64 (-1)) = U at A1 B1 R1 ⊢
        refine (fus_any w0.heap.size b v s z1 U A1.out HZ1.out.2).mono ?_
        rintro e W1 ⟨rfl, hA, ho⟩
        rw [HDE.out]
        have A2 := Lib.hid hA
        have B2 := Lib.hid (B1.out.trans (ho.below (by rintro i rfl; exact HUB.out) B1.out.size))
        have R2 : Hid (RefAt W1 (Of b v) bm (fusS s z1)) := Lib.hid (R1.out.step (ho.mono (fun i hi => .inl hi)) (fun i hi => .inl hi))
        clear hA ho A1 B1 R1
        go_wp2
        go_ret
        exact ⟨_, _, rfl, ⟨A2.out, R2.out, B2.out, HUB.out, HUM.out⟩⟩
      · have e1 : mx z1 = z1 := if_neg hm
        rw [e1] at o2 A1 B1 R1
        go_wp2_with fail
        clear o1 o2 hm2 hm4
        generalize V.setCell ⟨bm, 2, none⟩ (.int .i64 z1) = U at A1 B1 R1 ⊢
        refine (fus_any w0.heap.size b v s z1 U A1.out HZ1.out.2).mono ?_
        rintro e W1 ⟨rfl, hA, ho⟩
        rw [HDE.out]
        have A2 := Lib.hid hA
        have B2 := Lib.hid (B1.out.trans (ho.below (by rintro i rfl; exact HUB.out) B1.out.size))
        have R2 : Hid (RefAt W1 (Of b v) bm (fusS s z1)) := Lib.hid (R1.out.step (ho.mono (fun i hi => .inl hi)) (fun i hi => .inl hi))
        clear hA ho A1 B1 R1
        go_wp2
        go_ret
        exact ⟨_, _, rfl, ⟨A2.out, R2.out, B2.out, HUB.out, HUM.out⟩⟩
  by_cases hz : z0 = 4
  · subst hz
    go_upto_region 14 with fail
    generalize w.alloc (.cells #[.int .i64 4, .int .i64 z1, .int .i64 z2, .slice ap np cp] 29) = V at OV AV RV BV PV ⊢
    generalize w.heap.size = go at OV ⊢
    clear PV
    have o1 : V.cell? ⟨go, 1, none⟩ = some (.int .i64 z1) := OV.out.cell 1
    have o2 : V.cell? ⟨go, 2, none⟩ = some (.int .i64 z2) := OV.out.cell 2
    go_wp2_with fail
    clear o1 o2
    refine (rcrs_any (Of b v) bm s z1 z2 V RV.out AV.out.lt HSK.out.1 HSK.out.2.1 HZ1.out).mono ?_
    rintro e W1 ⟨rfl, hR, ho⟩
    have R1 := Lib.hid hR
    have A1 := Lib.hid (AV.out.onlyS ho (fun i hi e => RV.out.off (e ▸ hi)))
    have B1 := Lib.hid (BV.out.trans (ho.below (by rintro i rfl; exact HUM.out) BV.out.size))
    have O1 := Lib.hid (OV.out.onlyS ho (fun e => RV.out.not29 OV.out e))
    have o1 : W1.cell? ⟨go, 1, none⟩ = some (.int .i64 z1) := O1.out.cell 1
    have o2 : W1.cell? ⟨go, 2, none⟩ = some (.int .i64 z2) := O1.out.cell 2
    clear hR ho AV BV RV OV O1
    go_wp2_with fail
    clear o1 o2
    refine (crs_any w0.heap.size b v s z1 z2 W1 A1.out B1.out.size).mono ?_
    rintro e W2 ⟨v2, rfl, hA, ho, hL⟩
    have A2 := Lib.hid hA
    have R2 : Hid (RefAt W2 (Of b v2) bm (crsS s z1 z2)) := Lib.hid (R1.out.step ho (Lies.of hL))
    have B2 := Lib.hid (B1.out.trans (ho.below (A1.out.up HUB.out) B1.out.size))
    clear hA ho hL A1 B1 R1
    go_wp2
    go_ret
    exact ⟨_, _, rfl, ⟨A2.out, R2.out, B2.out, HUB.out, HUM.out⟩⟩
  clear PV
  go_wp2
  go_ret
  exact ⟨_, _, rfl, ⟨AV.out, RV.out, BV.out, HUB.out, HUM.out⟩⟩
end Go.Proofs.Ytjkpdfdcjhnjdaa
