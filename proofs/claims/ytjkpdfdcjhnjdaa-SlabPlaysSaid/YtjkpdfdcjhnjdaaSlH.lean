/-
  Append of bytes, of which only those that there are must lie elsewhere: the slab's and the document's.
-/
import Derived.Test.YtjkpdfdcjhnjdaaRfC
import Derived.Test.YtjkpdfdcjhnjdaaRfD
namespace Go.Proofs.Ytjkpdfdcjhnjdaa
open Go.RowKit
set_option linter.unusedVariables false

theorem Src.onlyE {S : Nat → Prop} {w w' : World} {A : Option Addr} {c : Nat} {l : List Int} (h : Src w A c l) (ho : OnlyS S w w') (hs : l = [] ∨ ∀ a, A = some a → ¬ S a.block) : Src w' A c l := by
  rcases hs with rfl | hs
  · exact ⟨h.1, .inl rfl⟩
  · exact h.onlyS ho hs

set_option maxHeartbeats 2000000 in
theorem app_gen (base b : Nat) (v : Value) (s : SS) (p : List Int) (A : Option Addr) (n c : Nat) (w : World) (h : AtS w base b v s) (hn : n = p.length) (hS : Src w A c p) (hA : p = [] ∨ ∀ a, A = some a → a.block ≠ b) (hb : base ≤ w.heap.size) (hp : p.length ≤ 9223372036854775807) :
    Calls Try.prog 12 #[.pointer (some ⟨b, 0, none⟩), .slice A n c] w (AppPost base b v s p w) := by
  subst hn
  have HK := Lib.hid (stp_any base b v s p.length w h hp)
  obtain ⟨m, hm⟩ : ∃ m, p.length = m := ⟨_, rfl⟩
  have HM := Lib.hid hm
  have HBS := Lib.hid hb
  have HS := Lib.hid hS
  rcases stepE_cases s m with ⟨h0, h1⟩ | h0 | h0
  · have HE0 := Lib.hid h0
    have H1 := Lib.hid h1
    rw [hm] at HK ⊢
    clear h hS h0 h1 hp hb hm
    go_enter Try.func12, Try.ntmps12
    go_wp2_with fail
    refine HK.out.mono ?_
    rintro e w1 ⟨rfl, hAt, ho⟩
    rw [HE0.out]
    have HO := Lib.hid ho
    have HT := Lib.hid hAt
    obtain ⟨A', c', hv, _⟩ := hAt.slice
    have hc0 : w1.cell? ⟨b, 0, none⟩ = some v := hAt.top.cell 0
    rw [hv] at hc0
    have hf0 := hAt.top.frozen 0
    have HS1 := Lib.hid (HS.out.onlyE ho hA)
    have HV := Lib.hid hv
    rw [stepS_l] at hc0
    obtain ⟨k, hk⟩ : ∃ k, s.l.length = k := ⟨_, rfl⟩
    rw [hk] at hc0
    have HKL := Lib.hid hk
    clear hAt ho hv HS hk
    go_wp2_with (at_builtin; refine wpList_app rfl (.tmp 17) (.tmp 18) 27 27 rfl Try.underlying27 Try.underlying27 base v (stepS s m).l p (by rw [HV.out, stepS_l, HKL.out]; rfl) HT.out.row A m c rfl HM.out.symm HS1.out ?c1 (Nat.le_trans HBS.out HO.out.size) ?_)
    case c1 => rw [stepS_l, HM.out]; have := H1.out; omega
    intro v' w2 hOw hg hL
    have hB2 : ∀ x t cs, t ≠ 5 → Blk w1 x t cs → Blk w2 x t cs := fun x t cs ht hx => hx.grown hg (fun e => HT.out.row.ne hx ht e.symm)
    have HT2 := Lib.hid (hB2 _ _ _ (by decide) HT.out.top)
    have hc1 : w2.cell? ⟨b, 0, none⟩ = some v := HT2.out.cell 0
    have hf1 := HT2.out.frozen 0
    have HOw : Hid (Own w2 base v' (stepS s m).l → True) := Lib.hid (fun _ => trivial)
    have HRow := Lib.hid hOw
    have HO2 : Hid (OnlyS (Of b v) w w2) := Lib.hid ((HO.out.mono (fun i hi => .inl hi)).grown hg (fun g hg' => .inl (.inr hg')))
    have HLies : Hid (Lies w v v') := Lib.hid (by
      rcases hL with h | ⟨g, h1, h2⟩
      · exact .inl h
      · exact .inr ⟨g, Nat.le_trans HO.out.size h1, h2⟩)
    obtain ⟨Ax, cx, hvx, _⟩ := hOw.src
    obtain ⟨N, hN⟩ : ∃ N, ((stepS s m).l ++ p).length = N := ⟨_, rfl⟩
    rw [hN] at hvx
    clear hg hL hOw hB2 HOw HS1 hN
    subst hvx
    go_wp2
    go_ret
    refine ⟨_, by rw [HM.out, HE0.out]; rfl, ?_, HO2.out.setCell (p := ⟨b, 0, none⟩) (.inl (.inl rfl)) _, HLies.out⟩
    have hs := HT2.out.set_ 0 (.slice Ax N cx)
    have e : appS s p = ⟨s.l ++ p, (stepS s m).k, (stepS s m).st, (stepS s m).fu, (stepS s m).dn⟩ := by unfold appS; rw [HM.out, if_pos HE0.out]
    rw [e]
    have hr := HRow.out.onlyS ((OnlyS.refl (fun i => i = b) w2).setCell (p := ⟨b, 0, none⟩) (.inl rfl) (.slice Ax N cx)) (fun g hg e => HRow.out.ne HT2.out (by decide) (by rw [hg, e]))
    rw [stepS_l] at hr
    refine ⟨hs, hr, ?_, ?_, HT.out.f1, HT.out.f2⟩
    · have := HT.out.kl
      rw [stepS_l] at this
      show (stepS s m).k ≤ (s.l ++ p).length
      rw [List.length_append]; omega
    · show (s.l ++ p).length ≤ _
      rw [List.length_append, HM.out]; exact H1.out
  all_goals
    have HE0 := Lib.hid h0
    have HAE : Hid (appS s p = stepS s m) := Lib.hid (by unfold appS; rw [hm, if_neg (by rw [h0]; decide)])
    rw [hm] at HK ⊢
    clear h hS h0 hp hb hm
    go_enter Try.func12, Try.ntmps12
    go_wp2_with fail
    refine HK.out.mono ?_
    rintro e w1 ⟨rfl, hAt, ho⟩
    have HO := Lib.hid ho
    have HT := Lib.hid hAt
    rw [HE0.out]
    clear hAt ho HK
    go_wp2
    go_ret
    exact ⟨v, by rw [HM.out, HE0.out]; rfl, by rw [HAE.out]; exact HT.out, HO.out.mono (fun i hi => .inl hi), .inl rfl⟩

set_option maxRecDepth 100000 in
set_option maxHeartbeats 4000000 in
theorem rapp_gen (S : Nat → Prop) (bm : Nat) (s : SS) (w : World) (p : List Int) (A : Option Addr) (n c : Nat) (h : RefAt w S bm s) (hS : ∀ i, S i → i < w.heap.size) (hn : n = p.length) (hP : Src w A c p) (hA : p = [] ∨ ∀ a, A = some a → a.block ≠ bm) (hp : p.length ≤ 1048576)
    (hk : s.k ≤ s.l.length) (hm : s.l.length ≤ 262144) (hf1 : -1 ≤ s.fu) (hf2 : s.fu ≤ 9223372036854775807) :
    Calls Try.prog 21 #[.pointer (some ⟨bm, 0, none⟩), .slice A n c] w (RPost S bm (stepE s p.length) (appS s p) w) := by
  have H := Lib.hid h
  have hc4 : w.cell? ⟨bm, 4, none⟩ = some (.bool s.dn) := by obtain ⟨⟨vS, vL, hT, _⟩, _⟩ := h; exact hT.cell 4
  have HN := Lib.hid hn
  by_cases hd : s.dn = true
  · obtain ⟨e1, e2⟩ := down_is s p.length hd
    have HE : Hid (stepE s p.length = 5) := Lib.hid e2
    have HY : Hid (appS s p = s) := Lib.hid (by unfold appS; rw [if_neg (by rw [e2]; decide), e1])
    rw [hd] at hc4
    clear h hd e1 e2 hn
    go_enter Try.func21, Try.ntmps21
    go_wp2
    go_ret
    exact ⟨by rw [HE.out]; rfl, by rw [HY.out]; exact H.out, OnlyS.refl _ _⟩
  · have hd' : s.dn = false := by cases e : s.dn; rfl; exact absurd e hd
    rw [hd'] at hc4
    obtain ⟨⟨vS, vL, hT, ⟨AS, cS, rfl, hrS, hAS⟩, ⟨AL, cL, rfl, hrL, hAL⟩⟩, hoff⟩ := h
    have hc0 : w.cell? ⟨bm, 0, none⟩ = some _ := hT.cell 0
    have hc1 : w.cell? ⟨bm, 1, none⟩ = some _ := hT.cell 1
    obtain ⟨nS, hnS⟩ : ∃ n, (s.l.take s.k).length = n := ⟨_, rfl⟩
    obtain ⟨nL, hnL⟩ : ∃ n, (s.l.drop s.k).length = n := ⟨_, rfl⟩
    rw [hnS] at hc0
    rw [hnL] at hc1
    have hsum : nS + nL = s.l.length := by rw [← hnS, ← hnL, List.length_take, List.length_drop]; omega
    have hI1 : (nS : Int) ≤ 262144 := by omega
    have hI2 : (nL : Int) ≤ 262144 := by omega
    have hI3 : (n : Int) ≤ 1048576 := by omega
    clear hT hrS hrL hAS hAL hoff hnS hnL
    by_cases hr : 262144 < s.l.length + p.length
    · obtain ⟨e1, e2⟩ := app_full s p hd' hr
      have HE := Lib.hid e1
      have HY := Lib.hid e2
      have hrI : (262144 : Int) < (nS : Int) + (nL : Int) + (n : Int) := by omega
      clear e1 e2 hr hd hd' hn hk hm hsum
      go_enter Try.func21, Try.ntmps21
      go_wp2_with fail
      go_quiet (fail)
      go_wp2
      go_ret
      have hB9 : Below w.heap.size w (w.drewN nq) := below_drewN (Below.refl _ _) _
      exact ⟨by rw [HE.out]; rfl, by rw [HY.out]; exact H.out.below hB9, OnlyS.of_below hB9⟩
    · have hrI : (nS : Int) + (nL : Int) + (n : Int) ≤ 262144 := by omega
      have hB9 : ∀ q9, Below w.heap.size w (w.drewN q9) := fun q9 => below_drewN (Below.refl _ _) _
      have HK := Lib.hid (fun q9 => rstep_any S bm s (w.drewN q9) (H.out.below (hB9 q9)) hd' hf1 hf2)
      obtain ⟨e1, e2⟩ := tick_is s p.length hd' (by omega)
      have HE := Lib.hid e2
      have HY := Lib.hid (appS_tick s p hd' (by omega))
      have HSZ := Lib.hid hS
      have HKL := Lib.hid hk
      have HR := Lib.hid hr
      have HSP := Lib.hid hP
      have HB9 := Lib.hid hB9
      clear hd hd' e1 e2 hS hk hm hf1 hf2 hr hn hP hB9 hsum
      by_cases hf : s.fu = 0
      · have HF := Lib.hid hf
        rw [hf] at HK
        clear hf
        go_enter Try.func21, Try.ntmps21
        go_wp2_with fail
        go_quiet (fail)
        go_wp2_with fail
        refine (HK.out nq).mono ?_
        rintro e w1 ⟨rfl, hA1, ho⟩
        have HA := Lib.hid hA1
        have HO := Lib.hid ho
        clear hA1 ho HK
        go_wp2
        go_ret
        exact ⟨by rw [HE.out, HF.out]; rfl, by rw [HY.out, if_pos HF.out]; exact HA.out, (OnlyS.of_below (HB9.out nq)).trans HO.out⟩
      · have hfd : decide (s.fu = 0) = false := decide_eq_false hf
        rw [hfd] at HK
        have HF := Lib.hid hf
        clear hf hfd
        go_enter Try.func21, Try.ntmps21
        go_wp2_with fail
        go_quiet (fail)
        go_wp2_with fail
        refine (HK.out nq).mono ?_
        rintro e V ⟨rfl, hA1, ho⟩
        have HO := Lib.hid ((OnlyS.of_below (HB9.out nq)).trans ho)
        have HSV := Lib.hid ((HSP.out.below (HB9.out nq)).onlyE ho hA)
        clear ho HK hc0 hc1
        obtain ⟨⟨vS, vL, hT, hrS, ⟨AM, cM, rfl, hQ, hAM⟩⟩, hoff⟩ := hA1
        have ht : tick s = ⟨s.l, s.k, up s.st, burn s.fu, false⟩ := by unfold tick; rw [if_neg HF.out]
        rw [ht] at hT hQ hrS
        simp only at hT hQ hrS
        obtain ⟨q, hq⟩ : ∃ q, s.l.drop s.k = q := ⟨_, rfl⟩
        rw [hq] at hT hQ
        obtain ⟨m, hm⟩ : ∃ m, q.length = m := ⟨_, rfl⟩
        rw [hm] at hT
        have hc1 : (V.alloc (.cells #[] 5)).cell? ⟨bm, 1, none⟩ = some (.slice AM m cM) := (hT.alloc _).cell 1
        have HT := Lib.hid hT
        have HQ := Lib.hid hQ
        have HRS := Lib.hid hrS
        have HOF := Lib.hid hoff
        have HQE := Lib.hid hq
        have HM := Lib.hid hm.symm
        have hle : q.length + p.length ≤ 262144 := by rw [← hq, List.length_drop]; have := HR.out; omega
        have HLE := Lib.hid hle
        have HAM : Hid (∀ a, AM = some a → a.block < V.heap.size) := Lib.hid (fun a ha => (hAM a ha).1)
        have HB5 : Hid (Below V.heap.size V (V.alloc (.cells #[] 5))) := Lib.hid ((Below.refl _ _).alloc (Nat.le_refl _) _)
        have HL5 := Lib.hid (Own.lit0 V)
        have HQ5 := Lib.hid (HQ.out.below HB5.out)
        clear hT hQ hrS hoff hq hm hle hAM ht
        go_wp2_with (at_builtin; refine wpList_app rfl (.tmp 28) (.tmp 32) 27 27 rfl Try.underlying27 Try.underlying27 V.heap.size (.slice (some ⟨V.heap.size, 0, none⟩) 0 0) [] q rfl HL5.out AM m cM rfl HM.out HQ5.out ?c1 ?c2 ?_)
        case c1 => have := HLE.out; simp; omega
        case c2 => exact HB5.out.size
        intro va W1 hOw hgp hLp
        have hBp : Below V.heap.size V W1 := HB5.out.grown hgp HB5.out.size (fun q9 hq9 => by injection hq9 with hq9; subst hq9; exact Nat.le_refl _)
        have HO1 := Lib.hid hOw
        have HB1 := Lib.hid hBp
        have HS1 := Lib.hid (HSV.out.below hBp)
        obtain ⟨Aa, ca, hva, _⟩ := hOw.src
        rw [← HM.out] at hva
        subst hva
        clear hOw hgp hLp hBp hc1 HB5 HL5 HQ5
        go_wp2_with (at_builtin; refine wpList_app rfl (.tmp 33) (.tmp 34) 27 27 rfl Try.underlying27 Try.underlying27 V.heap.size (.slice Aa m ca) q p rfl HO1.out A n c rfl HN.out HS1.out ?c1 ?c2 ?_)
        case c1 => have := HLE.out; omega
        case c2 => exact HB1.out.size
        intro vb W2 hOw hgp hLp
        have hBp : Below V.heap.size V W2 := HB1.out.grown hgp HB1.out.size (fun q9 hq9 => (HO1.out.lt q9 hq9).1)
        have HO2 := Lib.hid hOw
        have HB2 := Lib.hid hBp
        have HT2 := Lib.hid (HT.out.below hBp HT.out.lt)
        have hc1 : W2.cell? ⟨bm, 1, none⟩ = some (.slice AM m cM) := HT2.out.cell 1
        have hf1 := HT2.out.frozen 1
        obtain ⟨Ab, cb, hvb, _⟩ := hOw.src
        obtain ⟨N, hN⟩ : ∃ N, (q ++ p).length = N := ⟨_, rfl⟩
        rw [hN] at hvb
        have HNN := Lib.hid hN
        subst hvb
        clear hOw hgp hLp hBp hN
        go_wp2
        go_ret
        have hO9 : OnlyS (fun i => i = bm) W2 (W2.setCell ⟨bm, 1, none⟩ (.slice Ab N cb)) := (OnlyS.refl (fun i => i = bm) W2).setCell (p := ⟨bm, 1, none⟩) (.inl rfl) _
        have hbm := HT.out.lt
        refine ⟨by rw [HE.out, if_neg HF.out]; rfl, ?_, HO.out.trans ((OnlyS.of_below HB2.out).trans hO9)⟩
        rw [HY.out, if_neg HF.out]
        refine ⟨⟨vS, .slice Ab N cb, HT2.out.set_ 1 (.slice Ab N cb), ?_, ?_⟩, HOF.out⟩
        · rw [show List.take s.k (s.l ++ p) = List.take s.k s.l from List.take_append_of_le_length HKL.out]
          exact (HRS.out.below HB2.out).onlyS hO9 (fun i h => .inl (.inr h))
        · rw [show List.drop s.k (s.l ++ p) = q ++ p by rw [List.drop_append_of_le_length HKL.out, HQE.out]]
          refine RdS.own (base := V.heap.size) (HO2.out.onlyS hO9 (fun g9 h9 e => by have := (HO2.out.lt g9 h9).1; omega)) (fun i hi h9 => ?_)
          rcases h9 with h9 | h9
          · have h5 := HSZ.out i h9
            have h6 := HO.out.size
            omega
          · omega
end Go.Proofs.Ytjkpdfdcjhnjdaa
