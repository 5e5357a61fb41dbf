/-
  A till's answers: Has, Next, Many, Kept, All; New.
-/
import Derived.Test.YtbopnijekafogaaTillB
namespace Go.Proofs.Ytbopnijekafogaa
open Go.RowKit
set_option linter.unusedVariables false

def hasV (l : List (Int × Int)) (who : Int) : Int := if 0 ≤ who ∧ who < l.length then (l.getD who.toNat (0, 0)).1 else 0
def nextV (l : List (Int × Int)) (who : Int) : Int := if 0 ≤ who ∧ who < l.length then (l.getD who.toNat (0, 0)).2 else 0

set_option maxHeartbeats 1000000 in
theorem has_any (b g : Nat) (l : List (Int × Int)) (K who : Int) (w : World) (h : AtT w b g l K) :
    Calls Try.prog 22 #[.pointer (some ⟨b, 0, none⟩), .int .i64 who] w fun e w' => e = .returned (.int .u64 (hasV l who)) ∧ w = w' := by
  have HC := Lib.hid (check_any b g l K who w h)
  rcases chk_cases who l.length with ⟨h1, h2⟩ | ⟨k, rfl, hk, h2⟩
  · rw [show hasV l who = 0 from if_neg h1]
    rw [h2] at HC
    clear h h1 h2
    go_enter Try.func22, Try.ntmps22
    go_wp2_with fail
    refine HC.out.mono ?_
    rintro e w' ⟨rfl, rfl⟩
    go_wp2
    go_ret
    exact ⟨rfl, rfl⟩
  · rw [h2] at HC
    have hc := h.sl
    have hs := h.small
    have hh := h.hasCell k hk
    rw [show hasV l k = (l.getD k (0, 0)).1 by unfold hasV; rw [if_pos ⟨by omega, by omega⟩, Int.toNat_natCast]]
    obtain ⟨x, hx⟩ : ∃ x, (l.getD k (0, 0)).1 = x := ⟨_, rfl⟩
    rw [hx] at hh ⊢
    obtain ⟨m, hm⟩ : ∃ m, l.length = m := ⟨_, rfl⟩
    rw [hm] at hc hs hk
    clear h h2 hx hm
    go_enter Try.func22, Try.ntmps22
    go_wp2_with fail
    refine HC.out.mono ?_
    rintro e w' ⟨rfl, rfl⟩
    go_wp2
    go_ret
    exact ⟨rfl, rfl⟩

set_option maxHeartbeats 1000000 in
theorem next_any (b g : Nat) (l : List (Int × Int)) (K who : Int) (w : World) (h : AtT w b g l K) :
    Calls Try.prog 25 #[.pointer (some ⟨b, 0, none⟩), .int .i64 who] w fun e w' => e = .returned (.int .u64 (nextV l who)) ∧ w = w' := by
  have HC := Lib.hid (check_any b g l K who w h)
  rcases chk_cases who l.length with ⟨h1, h2⟩ | ⟨k, rfl, hk, h2⟩
  · rw [show nextV l who = 0 from if_neg h1]
    rw [h2] at HC
    clear h h1 h2
    go_enter Try.func25, Try.ntmps25
    go_wp2_with fail
    refine HC.out.mono ?_
    rintro e w' ⟨rfl, rfl⟩
    go_wp2
    go_ret
    exact ⟨rfl, rfl⟩
  · rw [h2] at HC
    have hc := h.sl
    have hs := h.small
    have hh := h.nextCell k hk
    rw [show nextV l k = (l.getD k (0, 0)).2 by unfold nextV; rw [if_pos ⟨by omega, by omega⟩, Int.toNat_natCast]]
    obtain ⟨x, hx⟩ : ∃ x, (l.getD k (0, 0)).2 = x := ⟨_, rfl⟩
    rw [hx] at hh ⊢
    obtain ⟨m, hm⟩ : ∃ m, l.length = m := ⟨_, rfl⟩
    rw [hm] at hc hs hk
    clear h h2 hx hm
    go_enter Try.func25, Try.ntmps25
    go_wp2_with fail
    refine HC.out.mono ?_
    rintro e w' ⟨rfl, rfl⟩
    go_wp2
    go_ret
    exact ⟨rfl, rfl⟩

theorem many_any (b g : Nat) (l : List (Int × Int)) (K : Int) (w : World) (h : AtT w b g l K) :
    Calls Try.prog 24 #[.pointer (some ⟨b, 0, none⟩)] w fun e w' => e = .returned (.int .i64 l.length) ∧ w = w' := by
  have hc := h.sl
  obtain ⟨m, hm⟩ : ∃ m, l.length = m := ⟨_, rfl⟩
  rw [hm] at hc ⊢
  clear h hm
  go_enter Try.func24, Try.ntmps24
  go_wp2
  go_ret
  exact ⟨rfl, rfl⟩

theorem kept_any (b g : Nat) (l : List (Int × Int)) (K : Int) (w : World) (h : AtT w b g l K) :
    Calls Try.prog 23 #[.pointer (some ⟨b, 0, none⟩)] w fun e w' => e = .returned (.int .u64 K) ∧ w = w' := by
  have hc := h.kp
  clear h
  go_enter Try.func23, Try.ntmps23
  go_wp2
  go_ret
  exact ⟨rfl, rfl⟩

theorem has_nil (who : Int) (w : World) : Calls Try.prog 22 #[.pointer none, .int .i64 who] w fun e w' => e = .returned (.int .u64 0) ∧ w = w' := by
  go_enter Try.func22, Try.ntmps22
  go_wp2_with (go_at_call 27; refine (check_nil _ _).mono ?_; rintro e w' ⟨rfl, rfl⟩)
  go_ret
  exact ⟨rfl, rfl⟩
theorem next_nil (who : Int) (w : World) : Calls Try.prog 25 #[.pointer none, .int .i64 who] w fun e w' => e = .returned (.int .u64 0) ∧ w = w' := by
  go_enter Try.func25, Try.ntmps25
  go_wp2_with (go_at_call 27; refine (check_nil _ _).mono ?_; rintro e w' ⟨rfl, rfl⟩)
  go_ret
  exact ⟨rfl, rfl⟩
theorem many_nil (w : World) : Calls Try.prog 24 #[.pointer none] w fun e w' => e = .returned (.int .i64 0) ∧ w = w' := by
  go_enter Try.func24, Try.ntmps24
  go_wp2
  go_ret
  exact ⟨rfl, rfl⟩
theorem kept_nil (w : World) : Calls Try.prog 23 #[.pointer none] w fun e w' => e = .returned (.int .u64 0) ∧ w = w' := by
  go_enter Try.func23, Try.ntmps23
  go_wp2
  go_ret
  exact ⟨rfl, rfl⟩
theorem all_nil (w : World) : Calls Try.prog 11 #[.pointer none] w fun e w' => e = .returned (.int .u64 0) ∧ w = w' := by
  go_enter Try.func11, Try.ntmps11
  go_wp2
  go_ret
  exact ⟨rfl, rfl⟩
theorem twin_nil (w : World) : Calls Try.prog 10 #[.pointer none] w fun e w' => e = .returned (.pointer none) ∧ w = w' := by
  go_enter Try.func10, Try.ntmps10
  go_wp2
  go_ret
  exact ⟨rfl, rfl⟩
theorem order_nil (who n : Int) (w : World) : Calls Try.prog 12 #[.pointer none, .int .i64 who, .int .u64 n] w fun e w' => e = .returned (.int .i64 2) ∧ w = w' := by
  go_enter Try.func12, Try.ntmps12
  go_wp2_with (go_at_call 27; refine (check_nil _ _).mono ?_; rintro e w' ⟨rfl, rfl⟩)
  go_ret
  exact ⟨rfl, rfl⟩
theorem keep_nil (who n : Int) (w : World) : Calls Try.prog 14 #[.pointer none, .int .i64 who, .int .u64 n] w fun e w' => e = .returned (.int .i64 2) ∧ w = w' := by
  go_enter Try.func14, Try.ntmps14
  go_wp2_with (go_at_call 27; refine (check_nil _ _).mono ?_; rintro e w' ⟨rfl, rfl⟩)
  go_ret
  exact ⟨rfl, rfl⟩
theorem give_nil (who n : Int) (w : World) : Calls Try.prog 16 #[.pointer none, .int .i64 who, .int .u64 n] w fun e w' => e = .returned (.int .i64 2) ∧ w = w' := by
  go_enter Try.func16, Try.ntmps16
  go_wp2_with (go_at_call 27; refine (check_nil _ _).mono ?_; rintro e w' ⟨rfl, rfl⟩)
  go_ret
  exact ⟨rfl, rfl⟩
theorem move_nil (who to n : Int) (w : World) : Calls Try.prog 18 #[.pointer none, .int .i64 who, .int .i64 to, .int .u64 n] w fun e w' => e = .returned (.int .i64 2) ∧ w = w' := by
  go_enter Try.func18, Try.ntmps18
  go_wp2_with (go_at_call 27; refine (check_nil _ _).mono ?_; rintro e w' ⟨rfl, rfl⟩)
  go_ret
  exact ⟨rfl, rfl⟩

/-- What all have, from s on. -/
def allS (s : Int) : List (Int × Int) → Int
  | [] => s
  | a :: r => allS (wrp (s + a.1)) r

theorem drop_pair (l : List (Int × Int)) (k : Nat) (hk : k < l.length) : l.drop k = l.getD k (0, 0) :: l.drop (k + 1) := by
  rw [show l.getD k (0, 0) = l[k] by simp [List.getD, hk]]
  exact List.drop_eq_getElem_cons hk

set_option maxHeartbeats 1000000 in
theorem all_any (b g : Nat) (l : List (Int × Int)) (K : Int) (w : World) (h : AtT w b g l K) :
    Calls Try.prog 11 #[.pointer (some ⟨b, 0, none⟩)] w fun e w' => e = .returned (.int .u64 (allS K l)) ∧ Below w.heap.size w w' := by
  have H := Lib.hid h
  have hc := h.sl
  have hkp := h.kp
  have hs := h.small
  clear h
  obtain ⟨m, hm⟩ : ∃ m, l.length = m := ⟨_, rfl⟩
  rw [hm] at hc hs
  have HM := Lib.hid hm
  clear hm
  go_enter Try.func11, Try.ntmps11
  go_wp2
  go_loopw [3, 5, 17] (fun s _ i wd => ∃ (k : Nat) (t : Int), k ≤ m ∧ i = .int .i64 k ∧ s = .int .u64 t ∧ Hid (allS K l = allS t (l.drop k)) ∧ Hid (Below w.heap.size w wd)) (fun _ _ i _ => m - (intOf i).toNat)
  case atStart => exact ⟨0, K, Nat.zero_le _, rfl, rfl, Lib.hid rfl, Lib.hid (Below.refl _ _)⟩
  case round =>
    obtain ⟨k, t, hk, rfl, rfl, HA, HB⟩ := hrel
    by_cases hlt : k < m
    · have hk' : k < l.length := by rw [HM.out]; exact hlt
      have HX := H.out.keep HB.out
      have e0 := HX.hasCell k hk'
      have e1 := HX.nextCell k hk'
      have HN : Hid (allS K l = allS (wrp (t + (l.getD k (0, 0)).1)) (l.drop (k + 1))) := Lib.hid (by rw [HA.out, drop_pair l k hk', allS])
      have HB2 := Lib.hid (HB.out.alloc HB.out.size (.cells #[.int .u64 (l.getD k (0, 0)).1, .int .u64 (l.getD k (0, 0)).2] 56))
      obtain ⟨x, hx⟩ : ∃ x, (l.getD k (0, 0)).1 = x := ⟨_, rfl⟩
      obtain ⟨z, hz⟩ : ∃ z, (l.getD k (0, 0)).2 = z := ⟨_, rfl⟩
      rw [hx] at e0 HN HB2
      rw [hz] at e1 HB2
      obtain ⟨y, hy⟩ : ∃ y, wrp (t + x) = y := ⟨_, rfl⟩
      rw [hy] at HN
      have hy' : IntKind.u64.wrap (t + x) = y := hy
      have hgl : g < wr.heap.size := HX.row.lt
      clear HX hx hz hy hk'
      go_wp2
      go_roundw
      case rel => exact ⟨k + 1, y, by omega, by go_num, rfl, HN, HB2⟩
      case measure => simp [intOf] <;> omega
    · have HN : Hid (allS K l = t) := Lib.hid (by
        rw [HA.out, List.drop_eq_nil_of_le (by rw [HM.out]; omega)]
        rfl)
      go_wp2
      go_ret
      exact ⟨by rw [HN.out]; rfl, HB.out⟩
end Go.Proofs.Ytbopnijekafogaa
