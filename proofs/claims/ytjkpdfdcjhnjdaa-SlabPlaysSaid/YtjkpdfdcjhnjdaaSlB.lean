/-
  A slab's step (26): is it done that needs so much room, and what it leaves.
-/
import Derived.Test.YtjkpdfdcjhnjdaaSlA
namespace Go.Proofs.Ytjkpdfdcjhnjdaa
open Go.RowKit
set_option linter.unusedVariables false

def up (st : Int) : Int := wrap64 (st + 1)
def burn (fu : Int) : Int := if 0 < fu then fu - 1 else fu
def stepE (s : SS) (n : Nat) : Int := if s.dn = true then 5 else if 262144 < s.l.length + n then 4 else if s.fu = 0 then 5 else 0
def stepS (s : SS) (n : Nat) : SS := if s.dn = true then s else if 262144 < s.l.length + n then s else if s.fu = 0 then ⟨s.l, s.k, s.st, s.fu, true⟩ else ⟨s.l, s.k, up s.st, burn s.fu, false⟩
theorem stepS_l (s : SS) (n : Nat) : (stepS s n).l = s.l := by unfold stepS; split; rfl; split; rfl; split <;> rfl
theorem stepS_k (s : SS) (n : Nat) : (stepS s n).k = s.k := by unfold stepS; split; rfl; split; rfl; split <;> rfl

theorem step_nil (v : Value) (w : World) : Calls Try.prog 26 #[.pointer none, v] w fun e w' => e = .returned (.int .i64 2) ∧ w = w' := by
  go_enter Try.func26, Try.ntmps26
  go_wp2_with fail
  refine (check_nil _).mono ?_
  rintro e w' ⟨rfl, rfl⟩
  go_wp2
  go_ret
  exact ⟨rfl, rfl⟩

def StepPost (base b : Nat) (v : Value) (s : SS) (n : Nat) (w : World) (e : Ending) (w' : World) : Prop := e = .returned (.int .i64 (stepE s n)) ∧ AtS w' base b v (stepS s n) ∧ OnlyS (fun i => i = b) w w'

set_option maxHeartbeats 2000000 in
theorem stp_any (base b : Nat) (v : Value) (s : SS) (n : Nat) (w : World) (h : AtS w base b v s) (hn : n ≤ 9223372036854775807) : Calls Try.prog 26 #[.pointer (some ⟨b, 0, none⟩), .int .i64 (n : Int)] w (StepPost base b v s n w) := by
  have H := Lib.hid h
  have HC := Lib.hid (check_any base b v s w h)
  obtain ⟨A, c, hv, _⟩ := h.slice
  have hc0 : w.cell? ⟨b, 0, none⟩ = _ := h.top.cell 0
  have hc2 : w.cell? ⟨b, 2, none⟩ = _ := h.top.cell 2
  have hc3 : w.cell? ⟨b, 3, none⟩ = _ := h.top.cell 3
  have hc4 : w.cell? ⟨b, 4, none⟩ = _ := h.top.cell 4
  have hf2 := h.top.frozen 2
  have hf3 := h.top.frozen 3
  have hf4 := h.top.frozen 4
  simp only [List.getElem?_cons_succ, List.getElem?_cons_zero] at hc0 hc2 hc3 hc4
  rw [hv] at hc0
  have hsm := h.small
  have hf1 := h.f1
  have hF2 := h.f2
  have HT := Lib.hid h.top
  clear h
  obtain ⟨l, k, st, fu, dn⟩ := s
  simp only at hc0 hc2 hc3 hc4 hsm hf1 hF2 HC HT
  obtain ⟨m, hm⟩ : ∃ m, l.length = m := ⟨_, rfl⟩
  rw [hm] at hc0 hsm
  have HM := Lib.hid hm
  clear hm hv
  by_cases hd : dn = true
  · subst hd
    have HP : Hid (StepPost base b v ⟨l, k, st, fu, true⟩ n w (.returned (.int .i64 5)) w) := Lib.hid ⟨rfl, H.out, OnlyS.refl _ _⟩
    have HC5 : Hid (Calls Try.prog 27 #[.pointer (some ⟨b, 0, none⟩)] w fun e w' => e = .returned (.int .i64 5) ∧ w = w') := HC
    clear HC H HT hc0 hc2 hc3 hc4
    go_enter Try.func26, Try.ntmps26
    go_wp2_with fail
    refine HC5.out.mono ?_
    rintro e w' ⟨rfl, rfl⟩
    go_wp2
    go_ret
    exact HP.out
  · have hd' : dn = false := by cases dn; rfl; exact absurd rfl hd
    subst hd'
    have HC5 : Hid (Calls Try.prog 27 #[.pointer (some ⟨b, 0, none⟩)] w fun e w' => e = .returned (.int .i64 0) ∧ w = w') := HC
    clear HC hd
    by_cases hr : 262144 < m + n
    · have HP : Hid (StepPost base b v ⟨l, k, st, fu, false⟩ n w (.returned (.int .i64 4)) w) := Lib.hid ⟨by simp [stepE, HM.out, hr], by have := H.out; simp only [stepS, HM.out, hr]; exact this, OnlyS.refl _ _⟩
      have hr1 : (262144 : Int) - (m : Int) < (n : Int) := by omega
      clear H HT hc2 hc3 hc4
      go_enter Try.func26, Try.ntmps26
      go_wp2_with fail
      refine HC5.out.mono ?_
      rintro e w' ⟨rfl, rfl⟩
      go_wp2
      go_ret
      exact HP.out
    · have hr1 : ¬ ((262144 : Int) - (m : Int) < (n : Int)) := by omega
      by_cases hf : fu = 0
      · subst hf
        have HP : Hid (StepPost base b v ⟨l, k, st, 0, false⟩ n w (.returned (.int .i64 5)) (w.setCell ⟨b, 4, none⟩ (.bool true))) := Lib.hid
          ⟨by simp [stepE, HM.out, hr], by
            simp only [stepS, HM.out, hr, if_false, if_true, Bool.false_eq_true]
            exact ⟨HT.out.set_ 4 (.bool true), H.out.row.onlyS ((OnlyS.refl (fun i => i = b) w).setCell (p := ⟨b, 4, none⟩) (.inl rfl) _) (fun g hg e => H.out.row.ne HT.out (by decide) (by rw [hg, e])), H.out.kl, H.out.small, H.out.f1, H.out.f2⟩, (OnlyS.refl (fun i => i = b) w).setCell (p := ⟨b, 4, none⟩) (.inl rfl) _⟩
        clear H HT hc2
        go_enter Try.func26, Try.ntmps26
        go_wp2_with fail
        refine HC5.out.mono ?_
        rintro e w' ⟨rfl, rfl⟩
        go_wp2
        go_ret
        exact HP.out
      · by_cases hp : 0 < fu
        · have HP : Hid (StepPost base b v ⟨l, k, st, fu, false⟩ n w (.returned (.int .i64 0)) ((w.setCell ⟨b, 3, none⟩ (.int .i64 (fu - 1))).setCell ⟨b, 2, none⟩ (.int .i64 (wrap64 (st + 1))))) := Lib.hid
            ⟨by simp [stepE, HM.out, hr, hf], by
              have ho := ((OnlyS.refl (fun i => i = b) w).setCell (p := ⟨b, 3, none⟩) (.inl rfl) (.int .i64 (fu - 1))).setCell (p := ⟨b, 2, none⟩) (.inl rfl) (.int .i64 (wrap64 (st + 1)))
              have ht := (HT.out.set_ 3 (.int .i64 (fu - 1))).set_ 2 (.int .i64 (wrap64 (st + 1)))
              simp only [stepS, HM.out, hr, hf, if_false, Bool.false_eq_true, burn, if_pos hp, up]
              exact ⟨ht, H.out.row.onlyS ho (fun g hg e => H.out.row.ne HT.out (by decide) (by rw [hg, e])), H.out.kl, H.out.small, by show -1 ≤ fu - 1; omega, by show fu - 1 ≤ _; omega⟩, ((OnlyS.refl (fun i => i = b) w).setCell (p := ⟨b, 3, none⟩) (.inl rfl) _).setCell (p := ⟨b, 2, none⟩) (.inl rfl) _⟩
          clear H HT
          go_enter Try.func26, Try.ntmps26
          go_wp2_with fail
          refine HC5.out.mono ?_
          rintro e w' ⟨rfl, rfl⟩
          go_wp2
          go_ret
          exact HP.out
        · have HP : Hid (StepPost base b v ⟨l, k, st, fu, false⟩ n w (.returned (.int .i64 0)) (w.setCell ⟨b, 2, none⟩ (.int .i64 (wrap64 (st + 1))))) := Lib.hid
            ⟨by simp [stepE, HM.out, hr, hf], by
              have ho := (OnlyS.refl (fun i => i = b) w).setCell (p := ⟨b, 2, none⟩) (.inl rfl) (.int .i64 (wrap64 (st + 1)))
              have ht := HT.out.set_ 2 (.int .i64 (wrap64 (st + 1)))
              simp only [stepS, HM.out, hr, hf, if_false, Bool.false_eq_true, burn, if_neg hp, up]
              exact ⟨ht, H.out.row.onlyS ho (fun g hg e => H.out.row.ne HT.out (by decide) (by rw [hg, e])), H.out.kl, H.out.small, H.out.f1, H.out.f2⟩, (OnlyS.refl (fun i => i = b) w).setCell (p := ⟨b, 2, none⟩) (.inl rfl) _⟩
          clear H HT
          go_enter Try.func26, Try.ntmps26
          go_wp2_with fail
          refine HC5.out.mono ?_
          rintro e w' ⟨rfl, rfl⟩
          go_wp2
          go_ret
          exact HP.out
end Go.Proofs.Ytjkpdfdcjhnjdaa
