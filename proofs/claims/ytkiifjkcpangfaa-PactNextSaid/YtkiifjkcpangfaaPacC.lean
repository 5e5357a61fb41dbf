/-
  A state: what each side has free, whether it may be, what comes of a wish.
-/
import Derived.Test.YtkiifjkcpangfaaPacB
namespace Go.Proofs.Ytkiifjkcpangfaa
open Go.RowKit
set_option linter.unusedVariables false

structure St where
  ch : Int
  rd : Int
  m0 : Int
  m1 : Int
  t0 : Int
  t1 : Int
  cs : List Cnd
deriving DecidableEq
def st0 : St := ⟨0, 0, 0, 0, 0, 0, []⟩
structure St.Ok (s : St) : Prop where
  rd : Word s.rd
  m0 : Word s.m0
  m1 : Word s.m1
  t0 : Word s.t0
  t1 : Word s.t1
theorem st0_ok : st0.Ok := ⟨⟨by decide, by decide⟩, ⟨by decide, by decide⟩, ⟨by decide, by decide⟩, ⟨by decide, by decide⟩, ⟨by decide, by decide⟩⟩
/-- The first one that lacks among what goes out, one by one. -/
def free2 (h : Int × Int) (p mo m t : Int) : Int × Int :=
  if h.2 ≠ 0 then (0, h.2) else if 18446744073709551616 ≤ p + mo then (0, 11) else if p + mo < m then (0, 12) else if p + mo - m < t then (0, 12) else if p + mo - m - t < h.1 then (0, 12) else (p + mo - m - t - h.1, 0)
def freeF (s : St) (p0 p1 side : Int) : Int × Int :=
  if side = 0 then free2 (heldGo 0 0 s.cs) p0 s.m1 s.m0 s.t0 else if side = 1 then free2 (heldGo 1 0 s.cs) p1 s.m0 s.m1 s.t1 else (0, 1)
def soundGo (all : List Cnd) (k : Nat) : List Cnd → Int
  | [] => 0
  | c :: r => if (c.side ≠ 0 ∧ c.side ≠ 1) ∨ c.amt = 0 then 1 else if findV c.id all < (k : Int) then 7 else soundGo all (k + 1) r
def soundE (s : St) (p0 p1 : Int) : Int :=
  if 200 < s.rd ∨ 8 < s.cs.length then 8 else if soundGo s.cs 0 s.cs ≠ 0 then soundGo s.cs 0 s.cs else if (freeF s p0 p1 0).2 ≠ 0 then (freeF s p0 p1 0).2 else (freeF s p0 p1 1).2
theorem sound_step {cs : List Cnd} {k : Nat} {c : Cnd} (h : soundGo cs 0 cs = soundGo cs k (cs.drop k)) (hk : k < cs.length) (hc : cs.getD k cnd0 = c) :
    ((c.side ≠ 0 ∧ c.side ≠ 1) ∨ c.amt = 0 → soundGo cs 0 cs = 1) ∧ (¬ ((c.side ≠ 0 ∧ c.side ≠ 1) ∨ c.amt = 0) → (findV c.id cs < (k : Int) → soundGo cs 0 cs = 7) ∧ (¬ findV c.id cs < (k : Int) → soundGo cs 0 cs = soundGo cs (k + 1) (cs.drop (k + 1)))) := by
  rw [drop_cnd cs k hk, hc] at h
  refine ⟨fun h1 => by rw [h, soundGo, if_pos h1], fun h1 => ⟨fun h2 => by rw [h, soundGo, if_neg h1, if_pos h2], fun h2 => by rw [h, soundGo, if_neg h1, if_neg h2]⟩⟩
theorem sound_end {cs : List Cnd} {k : Nat} (h : soundGo cs 0 cs = soundGo cs k (cs.drop k)) (hk : cs.length ≤ k) : soundGo cs 0 cs = 0 := by
  rw [List.drop_eq_nil_of_le hk, soundGo] at h
  exact h
theorem free2_word (h : Int × Int) (p mo m t : Int) (hh : Word h.1) (hp : Word p) (hmo : Word mo) (hm : Word m) (ht : Word t) : Word (free2 h p mo m t).1 := by
  unfold free2 Word at *
  repeat' split
  all_goals simp only
  all_goals omega
def turnF (r : Int) : Int := 1 - r % 2

theorem free2_err {h : Int × Int} (h0 : h.2 ≠ 0) (p mo m t : Int) : free2 h p mo m t = (0, h.2) := by unfold free2; rw [if_pos h0]
theorem free2_over {h : Int × Int} (h0 : h.2 = 0) {p mo : Int} (h1 : 18446744073709551616 ≤ p + mo) (m t : Int) : free2 h p mo m t = (0, 11) := by unfold free2; rw [if_neg (by simpa using h0), if_pos h1]
theorem free2_m {h : Int × Int} (h0 : h.2 = 0) {p mo m : Int} (h1 : ¬ 18446744073709551616 ≤ p + mo) (h2 : p + mo < m) (t : Int) : free2 h p mo m t = (0, 12) := by unfold free2; rw [if_neg (by simpa using h0), if_neg h1, if_pos h2]
theorem free2_t {h : Int × Int} (h0 : h.2 = 0) {p mo m t : Int} (h1 : ¬ 18446744073709551616 ≤ p + mo) (h2 : ¬ p + mo < m) (h3 : p + mo - m < t) : free2 h p mo m t = (0, 12) := by unfold free2; rw [if_neg (by simpa using h0), if_neg h1, if_neg h2, if_pos h3]
theorem free2_h {h : Int × Int} (h0 : h.2 = 0) {p mo m t : Int} (h1 : ¬ 18446744073709551616 ≤ p + mo) (h2 : ¬ p + mo < m) (h3 : ¬ p + mo - m < t) (h4 : p + mo - m - t < h.1) : free2 h p mo m t = (0, 12) := by unfold free2; rw [if_neg (by simpa using h0), if_neg h1, if_neg h2, if_neg h3, if_pos h4]
theorem free2_ok {h : Int × Int} (h0 : h.2 = 0) {p mo m t : Int} (h1 : ¬ 18446744073709551616 ≤ p + mo) (h2 : ¬ p + mo < m) (h3 : ¬ p + mo - m < t) (h4 : ¬ p + mo - m - t < h.1) : free2 h p mo m t = (p + mo - m - t - h.1, 0) := by unfold free2; rw [if_neg (by simpa using h0), if_neg h1, if_neg h2, if_neg h3, if_neg h4]

theorem add_ok (a b : Int) (w : World) (ha : Word a) (hb : Word b) (h : ¬ 18446744073709551616 ≤ a + b) : Calls Try.prog 34 #[.int .u64 a, .int .u64 b] w fun e w' => e = .returned (.tuple #[.int .u64 (a + b), .int .i64 0]) ∧ w = w' :=
  (add_any a b w ha hb).mono fun e w' ⟨he, hw⟩ => ⟨by rw [he, addV, addE, if_pos (by omega), if_pos (by omega)], hw⟩
theorem add_over (a b : Int) (w : World) (ha : Word a) (hb : Word b) (h : 18446744073709551616 ≤ a + b) : Calls Try.prog 34 #[.int .u64 a, .int .u64 b] w fun e w' => e = .returned (.tuple #[.int .u64 0, .int .i64 11]) ∧ w = w' :=
  (add_any a b w ha hb).mono fun e w' ⟨he, hw⟩ => ⟨by rw [he, addV, addE, if_neg (by omega), if_neg (by omega)], hw⟩
theorem radd_ok (a b : Int) (w : World) (ha : Word a) (hb : Word b) (h : ¬ 18446744073709551616 ≤ a + b) : Calls Try.prog 29 #[.int .u64 a, .int .u64 b] w fun e w' => e = .returned (.tuple #[.int .u64 (a + b), .int .i64 0]) ∧ w = w' :=
  (radd_any a b w ha hb).mono fun e w' ⟨he, hw⟩ => ⟨by rw [he, addV, addE, if_pos (by omega), if_pos (by omega)], hw⟩
theorem radd_over (a b : Int) (w : World) (ha : Word a) (hb : Word b) (h : 18446744073709551616 ≤ a + b) : Calls Try.prog 29 #[.int .u64 a, .int .u64 b] w fun e w' => e = .returned (.tuple #[.int .u64 0, .int .i64 11]) ∧ w = w' :=
  (radd_any a b w ha hb).mono fun e w' ⟨he, hw⟩ => ⟨by rw [he, addV, addE, if_neg (by omega), if_neg (by omega)], hw⟩
theorem sub_ok (a b : Int) (w : World) (ha : Word a) (hb : Word b) (h : ¬ a < b) : Calls Try.prog 36 #[.int .u64 a, .int .u64 b] w fun e w' => e = .returned (.tuple #[.int .u64 (a - b), .int .i64 0]) ∧ w = w' :=
  (sub_any a b w ha hb).mono fun e w' ⟨he, hw⟩ => ⟨by rw [he, subV, subE, if_neg h, if_neg h], hw⟩
theorem sub_under (a b : Int) (w : World) (ha : Word a) (hb : Word b) (h : a < b) : Calls Try.prog 36 #[.int .u64 a, .int .u64 b] w fun e w' => e = .returned (.tuple #[.int .u64 0, .int .i64 12]) ∧ w = w' :=
  (sub_any a b w ha hb).mono fun e w' ⟨he, hw⟩ => ⟨by rw [he, subV, subE, if_pos h, if_pos h], hw⟩
theorem rsub_any (a b : Int) (w : World) (ha : Word a) (hb : Word b) :
    Calls Try.prog 37 #[.int .u64 a, .int .u64 b] w fun e w' => e = .returned (.tuple #[.int .u64 (subV a b), .int .i64 (subE a b)]) ∧ w = w' := by
  obtain ⟨a0, a1⟩ := ha
  obtain ⟨b0, b1⟩ := hb
  by_cases h : a < b
  · rw [subV, subE, if_pos h, if_pos h]
    go_enter Try.func37, Try.ntmps37
    go_wp2
    go_ret2
    exact ⟨rfl, rfl⟩
  · rw [subV, subE, if_neg h, if_neg h]
    go_enter Try.func37, Try.ntmps37
    go_wp2
    go_ret2
    exact ⟨rfl, rfl⟩
theorem rsub_ok (a b : Int) (w : World) (ha : Word a) (hb : Word b) (h : ¬ a < b) : Calls Try.prog 37 #[.int .u64 a, .int .u64 b] w fun e w' => e = .returned (.tuple #[.int .u64 (a - b), .int .i64 0]) ∧ w = w' :=
  (rsub_any a b w ha hb).mono fun e w' ⟨he, hw⟩ => ⟨by rw [he, subV, subE, if_neg h, if_neg h], hw⟩
theorem rsub_under (a b : Int) (w : World) (ha : Word a) (hb : Word b) (h : a < b) : Calls Try.prog 37 #[.int .u64 a, .int .u64 b] w fun e w' => e = .returned (.tuple #[.int .u64 0, .int .i64 12]) ∧ w = w' :=
  (rsub_any a b w ha hb).mono fun e w' ⟨he, hw⟩ => ⟨by rw [he, subV, subE, if_pos h, if_pos h], hw⟩

theorem idx84_0 (x y z : Int) (W : World) : (Instr.index 84 (.agg #[.int .u64 x, .int .u64 y, .int .u64 z]) (.int .i64 0)).run Try.prog W = .ok (.int .u64 x) W := by kernel_rfl
theorem idx84_1 (x y z : Int) (W : World) : (Instr.index 84 (.agg #[.int .u64 x, .int .u64 y, .int .u64 z]) (.int .i64 1)).run Try.prog W = .ok (.int .u64 y) W := by kernel_rfl
theorem idx84_2 (x y z : Int) (W : World) : (Instr.index 84 (.agg #[.int .u64 x, .int .u64 y, .int .u64 z]) (.int .i64 2)).run Try.prog W = .ok (.int .u64 z) W := by kernel_rfl
theorem isSide0 (w : World) : Calls Try.prog 35 #[.int .i64 0] w fun e w' => e = .returned (.bool true) ∧ w = w' := by
  go_enter Try.func35, Try.ntmps35
  go_wp2
  go_ret
  exact ⟨rfl, rfl⟩
theorem isSide1 (w : World) : Calls Try.prog 35 #[.int .i64 1] w fun e w' => e = .returned (.bool true) ∧ w = w' := by
  go_enter Try.func35, Try.ntmps35
  go_wp2
  go_ret
  exact ⟨rfl, rfl⟩
theorem isSideN (s : Int) (w : World) (h0 : s ≠ 0) (h1 : s ≠ 1) : Calls Try.prog 35 #[.int .i64 s] w fun e w' => e = .returned (.bool false) ∧ w = w' := by
  have b0 : (s == 0) = false := by simpa using h0
  have b1 : (s == 1) = false := by simpa using h1
  clear h0 h1
  go_enter Try.func35, Try.ntmps35
  go_wp2
  go_ret
  exact ⟨rfl, rfl⟩
theorem other0 (w : World) : Calls Try.prog 31 #[.int .i64 0] w fun e w' => e = .returned (.int .i64 1) ∧ w = w' := by
  go_enter Try.func31, Try.ntmps31
  go_wp2
  go_ret
  exact ⟨rfl, rfl⟩
theorem other1 (w : World) : Calls Try.prog 31 #[.int .i64 1] w fun e w' => e = .returned (.int .i64 0) ∧ w = w' := by
  go_enter Try.func31, Try.ntmps31
  go_wp2
  go_ret
  exact ⟨rfl, rfl⟩
theorem turn_any (r : Int) (w : World) (hr : Word r) : Calls Try.prog 22 #[.int .u64 r] w fun e w' => e = .returned (.int .i64 (turnF r)) ∧ w = w' := by
  obtain ⟨r0, r1⟩ := hr
  rcases (show r % 2 = 0 ∨ r % 2 = 1 by omega) with h | h
  · have e1 : r.tmod 2 = 0 := by rw [Int.tmod_eq_emod_of_nonneg r0]; exact h
    rw [show turnF r = 1 by unfold turnF; omega]
    clear h
    go_enter Try.func22, Try.ntmps22
    go_wp2
    go_ret
    exact ⟨rfl, rfl⟩
  · have e1 : r.tmod 2 = 1 := by rw [Int.tmod_eq_emod_of_nonneg r0]; exact h
    rw [show turnF r = 0 by unfold turnF; omega]
    clear h
    go_enter Try.func22, Try.ntmps22
    go_wp2
    go_ret
    exact ⟨rfl, rfl⟩
theorem rturn_any (r : Int) (w : World) (hr : Word r) : Calls Try.prog 23 #[.int .u64 r] w fun e w' => e = .returned (.int .i64 (turnF r)) ∧ w = w' := by
  obtain ⟨r0, r1⟩ := hr
  rcases (show r % 2 = 0 ∨ r % 2 = 1 by omega) with h | h
  · have e1 : r.tmod 2 = 0 := by rw [Int.tmod_eq_emod_of_nonneg r0]; exact h
    rw [show turnF r = 1 by unfold turnF; omega]
    clear h
    go_enter Try.func23, Try.ntmps23
    go_wp2
    go_ret
    exact ⟨rfl, rfl⟩
  · have e1 : r.tmod 2 = 1 := by rw [Int.tmod_eq_emod_of_nonneg r0]; exact h
    rw [show turnF r = 0 by unfold turnF; omega]
    clear h
    go_enter Try.func23, Try.ntmps23
    go_wp2
    go_ret
    exact ⟨rfl, rfl⟩
end Go.Proofs.Ytkiifjkcpangfaa
