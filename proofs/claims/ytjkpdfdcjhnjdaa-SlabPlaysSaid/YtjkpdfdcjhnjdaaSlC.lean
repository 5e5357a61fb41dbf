/-
  A slab's calls: New, Append, Sync, Erase, Fuse, Loose, Steps, Down, Read.
-/
import Derived.Test.YtjkpdfdcjhnjdaaSlB
namespace Go.Proofs.Ytjkpdfdcjhnjdaa
open Go.RowKit
set_option linter.unusedVariables false

def fresh : SS := ⟨[], 0, 0, -1, false⟩
theorem new_any (w : World) : Calls Try.prog 7 #[] w fun e w' => ∃ b, e = .returned (.pointer (some ⟨b, 0, none⟩)) ∧ w.heap.size ≤ b ∧ AtS w' w.heap.size b (.slice none 0 0) fresh ∧ Below w.heap.size w w' := by
  go_enter Try.func7, Try.ntmps7
  go_wp2
  go_ret
  exact ⟨_, rfl, Nat.le_refl _, ⟨Blk.new _ _ _, Own.nil _ _, Nat.le_refl _, by decide, by decide, by decide⟩, (Below.refl _ _).alloc (Nat.le_refl _) _⟩

def appS (s : SS) (p : List Int) : SS := if stepE s p.length = 0 then ⟨s.l ++ p, (stepS s p.length).k, (stepS s p.length).st, (stepS s p.length).fu, (stepS s p.length).dn⟩ else stepS s p.length
def AppPost (base b : Nat) (v : Value) (s : SS) (p : List Int) (w : World) (e : Ending) (w' : World) : Prop := ∃ v', e = .returned (.int .i64 (stepE s p.length)) ∧ AtS w' base b v' (appS s p) ∧ OnlyS (Of b v) w w' ∧ Lies w v v'
theorem stepE_cases (s : SS) (n : Nat) : (stepE s n = 0 ∧ s.l.length + n ≤ 262144) ∨ stepE s n = 4 ∨ stepE s n = 5 := by
  unfold stepE
  split
  · exact .inr (.inr rfl)
  · split
    · exact .inr (.inl rfl)
    · split
      · exact .inr (.inr rfl)
      · exact .inl ⟨rfl, by omega⟩

theorem app_nil (v : Value) (A : Option Addr) (n c : Nat) (w : World) (hv : v = .slice A n c) : Calls Try.prog 12 #[.pointer none, v] w fun e w' => e = .returned (.int .i64 2) ∧ w = w' := by
  subst hv
  go_enter Try.func12, Try.ntmps12
  go_wp2_with fail
  refine (step_nil _ _).mono ?_
  rintro e w' ⟨rfl, rfl⟩
  go_wp2
  go_ret
  exact ⟨rfl, rfl⟩

set_option maxHeartbeats 2000000 in
theorem app_any (base b : Nat) (v : Value) (s : SS) (p : List Int) (A : Option Addr) (n c : Nat) (w : World) (h : AtS w base b v s) (hn : n = p.length) (hS : Src w A c p) (hA : ∀ a, A = some a → a.block ≠ b) (hb : base ≤ w.heap.size) (hp : p.length ≤ 9223372036854775807) :
    Calls Try.prog 12 #[.pointer (some ⟨b, 0, none⟩), .slice A n c] w (AppPost base b v s p w) := by
  subst hn
  have HK := Lib.hid (stp_any base b v s p.length w h hp)
  obtain ⟨m, hm⟩ : ∃ m, p.length = m := ⟨_, rfl⟩
  have HM := Lib.hid hm
  have HBS := Lib.hid hb
  have HS := Lib.hid hS
  rcases stepE_cases s m with ⟨h0, h1⟩ | h0 | h0
  · have HE0 := Lib.hid h0
    have H1 := Lib.hid h1
    rw [hm] at HK ⊢
    clear h hS h0 h1 hp hb hm
    go_enter Try.func12, Try.ntmps12
    go_wp2_with fail
    refine HK.out.mono ?_
    rintro e w1 ⟨rfl, hAt, ho⟩
    rw [HE0.out]
    have HO := Lib.hid ho
    have HT := Lib.hid hAt
    obtain ⟨A', c', hv, _⟩ := hAt.slice
    have hc0 : w1.cell? ⟨b, 0, none⟩ = some v := hAt.top.cell 0
    rw [hv] at hc0
    have hf0 := hAt.top.frozen 0
    have HS1 := Lib.hid (HS.out.onlyS ho hA)
    have HV := Lib.hid hv
    rw [stepS_l] at hc0
    obtain ⟨k, hk⟩ : ∃ k, s.l.length = k := ⟨_, rfl⟩
    rw [hk] at hc0
    have HKL := Lib.hid hk
    clear hAt ho hv HS hk
    go_wp2_with (at_builtin; refine wpList_app rfl (.tmp 17) (.tmp 18) 27 27 rfl Try.underlying27 Try.underlying27 base v (stepS s m).l p (by rw [HV.out, stepS_l, HKL.out]; rfl) HT.out.row A m c rfl HM.out.symm HS1.out ?c1 (Nat.le_trans HBS.out HO.out.size) ?_)
    case c1 => rw [stepS_l, HM.out]; have := H1.out; omega
    intro v' w2 hOw hg hL
    have hB2 : ∀ x t cs, t ≠ 5 → Blk w1 x t cs → Blk w2 x t cs := fun x t cs ht hx => hx.grown hg (fun e => HT.out.row.ne hx ht e.symm)
    have HT2 := Lib.hid (hB2 _ _ _ (by decide) HT.out.top)
    have hc1 : w2.cell? ⟨b, 0, none⟩ = some v := HT2.out.cell 0
    have hf1 := HT2.out.frozen 0
    have HOw : Hid (Own w2 base v' (stepS s m).l → True) := Lib.hid (fun _ => trivial)
    have HRow := Lib.hid hOw
    have HO2 : Hid (OnlyS (Of b v) w w2) := Lib.hid ((HO.out.mono (fun i hi => .inl hi)).grown hg (fun g hg' => .inl (.inr hg')))
    have HLies : Hid (Lies w v v') := Lib.hid (by
      rcases hL with h | ⟨g, h1, h2⟩
      · exact .inl h
      · exact .inr ⟨g, Nat.le_trans HO.out.size h1, h2⟩)
    obtain ⟨Ax, cx, hvx, _⟩ := hOw.src
    obtain ⟨N, hN⟩ : ∃ N, ((stepS s m).l ++ p).length = N := ⟨_, rfl⟩
    rw [hN] at hvx
    clear hg hL hOw hB2 HOw HS1 hN
    subst hvx
    go_wp2
    go_ret
    refine ⟨_, by rw [HM.out, HE0.out]; rfl, ?_, HO2.out.setCell (p := ⟨b, 0, none⟩) (.inl (.inl rfl)) _, HLies.out⟩
    have hs := HT2.out.set_ 0 (.slice Ax N cx)
    have e : appS s p = ⟨s.l ++ p, (stepS s m).k, (stepS s m).st, (stepS s m).fu, (stepS s m).dn⟩ := by unfold appS; rw [HM.out, if_pos HE0.out]
    rw [e]
    have hr := HRow.out.onlyS ((OnlyS.refl (fun i => i = b) w2).setCell (p := ⟨b, 0, none⟩) (.inl rfl) (.slice Ax N cx)) (fun g hg e => HRow.out.ne HT2.out (by decide) (by rw [hg, e]))
    rw [stepS_l] at hr
    refine ⟨hs, hr, ?_, ?_, HT.out.f1, HT.out.f2⟩
    · have := HT.out.kl
      rw [stepS_l] at this
      show (stepS s m).k ≤ (s.l ++ p).length
      rw [List.length_append]; omega
    · show (s.l ++ p).length ≤ _
      rw [List.length_append, HM.out]; exact H1.out
  all_goals
    have HE0 := Lib.hid h0
    have HAE : Hid (appS s p = stepS s m) := Lib.hid (by unfold appS; rw [hm, if_neg (by rw [h0]; decide)])
    rw [hm] at HK ⊢
    clear h hS h0 hp hb hm
    go_enter Try.func12, Try.ntmps12
    go_wp2_with fail
    refine HK.out.mono ?_
    rintro e w1 ⟨rfl, hAt, ho⟩
    have HO := Lib.hid ho
    have HT := Lib.hid hAt
    rw [HE0.out]
    clear hAt ho HK
    go_wp2
    go_ret
    exact ⟨v, by rw [HM.out, HE0.out]; rfl, by rw [HAE.out]; exact HT.out, HO.out.mono (fun i hi => .inl hi), .inl rfl⟩

def synS (s : SS) : SS := if stepE s 0 = 0 then ⟨s.l, s.l.length, (stepS s 0).st, (stepS s 0).fu, (stepS s 0).dn⟩ else stepS s 0
def SynPost (base b : Nat) (v : Value) (s : SS) (w : World) (e : Ending) (w' : World) : Prop := e = .returned (.int .i64 (stepE s 0)) ∧ AtS w' base b v (synS s) ∧ OnlyS (fun i => i = b) w w'
theorem syn_nil (w : World) : Calls Try.prog 13 #[.pointer none] w fun e w' => e = .returned (.int .i64 2) ∧ w = w' := by
  go_enter Try.func13, Try.ntmps13
  go_wp2_with fail
  refine (step_nil _ _).mono ?_
  rintro e w' ⟨rfl, rfl⟩
  go_wp2
  go_ret
  exact ⟨rfl, rfl⟩
set_option maxHeartbeats 2000000 in
theorem syn_any (base b : Nat) (v : Value) (s : SS) (w : World) (h : AtS w base b v s) : Calls Try.prog 13 #[.pointer (some ⟨b, 0, none⟩)] w (SynPost base b v s w) := by
  have HK := Lib.hid (stp_any base b v s 0 w h (by decide))
  rcases stepE_cases s 0 with ⟨h0, h1⟩ | h0 | h0
  · have HE0 := Lib.hid h0
    clear h h0 h1
    go_enter Try.func13, Try.ntmps13
    go_wp2_with fail
    refine HK.out.mono ?_
    rintro e w1 ⟨rfl, hAt, ho⟩
    rw [HE0.out]
    have HO := Lib.hid ho
    have HT := Lib.hid hAt
    obtain ⟨A', c', hv, _⟩ := hAt.slice
    have hc0 : w1.cell? ⟨b, 0, none⟩ = some v := hAt.top.cell 0
    have hc1 : w1.cell? ⟨b, 1, none⟩ = _ := hAt.top.cell 1
    simp only [List.getElem?_cons_succ, List.getElem?_cons_zero] at hc1
    rw [hv] at hc0
    have hf1 := hAt.top.frozen 1
    rw [stepS_l] at hc0
    obtain ⟨k, hk⟩ : ∃ k, s.l.length = k := ⟨_, rfl⟩
    rw [hk] at hc0
    have HKL := Lib.hid hk
    clear hAt ho hv hk
    go_wp2
    go_ret
    refine ⟨by rw [HE0.out]; rfl, ?_, HO.out.setCell (p := ⟨b, 1, none⟩) (.inl rfl) _⟩
    have e : synS s = ⟨s.l, s.l.length, (stepS s 0).st, (stepS s 0).fu, (stepS s 0).dn⟩ := by unfold synS; rw [if_pos HE0.out]
    rw [e, HKL.out]
    have hr := HT.out.row.onlyS ((OnlyS.refl (fun i => i = b) w1).setCell (p := ⟨b, 1, none⟩) (.inl rfl) (.int .i64 (k : Int))) (fun g hg e => HT.out.row.ne HT.out.top (by decide) (by rw [hg, e]))
    rw [stepS_l] at hr
    have hsm := HT.out.small
    rw [stepS_l] at hsm
    exact ⟨HT.out.top.set_ 1 (.int .i64 (k : Int)), hr, by show k ≤ s.l.length; rw [HKL.out]; exact Nat.le_refl _, hsm, HT.out.f1, HT.out.f2⟩
  all_goals
    have HE0 := Lib.hid h0
    have HAE : Hid (synS s = stepS s 0) := Lib.hid (by unfold synS; rw [if_neg (by rw [h0]; decide)])
    clear h h0
    go_enter Try.func13, Try.ntmps13
    go_wp2_with fail
    refine HK.out.mono ?_
    rintro e w1 ⟨rfl, hAt, ho⟩
    have HO := Lib.hid ho
    have HT := Lib.hid hAt
    rw [HE0.out]
    clear hAt ho HK
    go_wp2
    go_ret
    exact ⟨by rw [HE0.out]; rfl, by rw [HAE.out]; exact HT.out, HO.out⟩

def eraS (s : SS) : SS := if stepE s 0 = 0 then ⟨[], 0, (stepS s 0).st, (stepS s 0).fu, (stepS s 0).dn⟩ else stepS s 0
def eraV (s : SS) (v : Value) : Value := if stepE s 0 = 0 then .slice none 0 0 else v
def EraPost (base b : Nat) (v : Value) (s : SS) (w : World) (e : Ending) (w' : World) : Prop := e = .returned (.int .i64 (stepE s 0)) ∧ AtS w' base b (eraV s v) (eraS s) ∧ OnlyS (fun i => i = b) w w'
theorem era_nil (w : World) : Calls Try.prog 15 #[.pointer none] w fun e w' => e = .returned (.int .i64 2) ∧ w = w' := by
  go_enter Try.func15, Try.ntmps15
  go_wp2_with fail
  refine (step_nil _ _).mono ?_
  rintro e w' ⟨rfl, rfl⟩
  go_wp2
  go_ret
  exact ⟨rfl, rfl⟩
set_option maxHeartbeats 2000000 in
theorem era_any (base b : Nat) (v : Value) (s : SS) (w : World) (h : AtS w base b v s) : Calls Try.prog 15 #[.pointer (some ⟨b, 0, none⟩)] w (EraPost base b v s w) := by
  have HK := Lib.hid (stp_any base b v s 0 w h (by decide))
  rcases stepE_cases s 0 with ⟨h0, h1⟩ | h0 | h0
  · have HE0 := Lib.hid h0
    clear h h0 h1
    go_enter Try.func15, Try.ntmps15
    go_wp2_with fail
    refine HK.out.mono ?_
    rintro e w1 ⟨rfl, hAt, ho⟩
    rw [HE0.out]
    have HO := Lib.hid ho
    have HT := Lib.hid hAt
    have hc0 : w1.cell? ⟨b, 0, none⟩ = some v := hAt.top.cell 0
    have hc1 : w1.cell? ⟨b, 1, none⟩ = _ := hAt.top.cell 1
    simp only [List.getElem?_cons_succ, List.getElem?_cons_zero] at hc1
    have hf0 := hAt.top.frozen 0
    have hf1 := hAt.top.frozen 1
    clear hAt ho
    go_wp2
    go_ret
    refine ⟨by rw [HE0.out]; rfl, ?_, (HO.out.setCell (p := ⟨b, 0, none⟩) (.inl rfl) _).setCell (p := ⟨b, 1, none⟩) (.inl rfl) _⟩
    have e : eraS s = ⟨[], 0, (stepS s 0).st, (stepS s 0).fu, (stepS s 0).dn⟩ := by unfold eraS; rw [if_pos HE0.out]
    rw [e, show eraV s v = .slice none 0 0 from if_pos HE0.out]
    exact ⟨(HT.out.top.set_ 0 (.slice none 0 0)).set_ 1 (.int .i64 0), Own.nil _ _, Nat.le_refl _, Nat.zero_le _, HT.out.f1, HT.out.f2⟩
  all_goals
    have HE0 := Lib.hid h0
    have HAE : Hid (eraS s = stepS s 0) := Lib.hid (by unfold eraS; rw [if_neg (by rw [h0]; decide)])
    have HVE : Hid (eraV s v = v) := Lib.hid (by unfold eraV; rw [if_neg (by rw [h0]; decide)])
    clear h h0
    go_enter Try.func15, Try.ntmps15
    go_wp2_with fail
    refine HK.out.mono ?_
    rintro e w1 ⟨rfl, hAt, ho⟩
    have HO := Lib.hid ho
    have HT := Lib.hid hAt
    rw [HE0.out]
    clear hAt ho HK
    go_wp2
    go_ret
    exact ⟨by rw [HE0.out]; rfl, by rw [HAE.out, HVE.out]; exact HT.out, HO.out⟩
end Go.Proofs.Ytjkpdfdcjhnjdaa
