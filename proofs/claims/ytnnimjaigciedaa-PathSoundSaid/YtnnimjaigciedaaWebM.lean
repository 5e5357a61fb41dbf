/-
  money's Add and Sub; a row's clone.
-/
import Derived.Test.YtnnimjaigciedaaWebCk
namespace Go.Proofs.Ytnnimjaigciedaa
open Go.RowKit
set_option linter.unusedVariables false

theorem Try.add64 (x y : Int) (hx : 0 ≤ x) (hy : 0 ≤ y) (w : World) : (callFunc 80 #[.int .u64 x, .int .u64 y, .int .u64 0]).run Try.prog w =
    .ok (.value (.tuple #[.int .u64 ((x + y) % 18446744073709551616), .int .u64 ((x + y) / 18446744073709551616)])) w := by
  rw [run_callFunc_extern Try.func80 (by kernel_rfl) (by kernel_rfl) (by kernel_rfl) (e := add64Entry) (by kernel_rfl), run_add64 x y 0 hx hy (by omega) (by omega)]
  simp

def addE (a b : Int) : Int := if a + b < 18446744073709551616 then 0 else 11
def addV (a b : Int) : Int := if a + b < 18446744073709551616 then a + b else 0
def subE (a b : Int) : Int := if a < b then 12 else 0
def subV (a b : Int) : Int := if a < b then 0 else a - b

theorem add_any (a b : Int) (w : World) (ha : Word a) (hb : Word b) :
    Calls Try.prog 53 #[.int .u64 a, .int .u64 b] w fun e w' => e = .returned (.tuple #[.int .u64 (addV a b), .int .i64 (addE a b)]) ∧ w = w' := by
  obtain ⟨a0, a1⟩ := ha
  obtain ⟨b0, b1⟩ := hb
  by_cases h : a + b < 18446744073709551616
  · rw [addV, addE, if_pos h, if_pos h]
    have e1 : (a + b) / 18446744073709551616 = 0 := by omega
    have e2 : (a + b) % 18446744073709551616 = a + b := by omega
    go_enter Try.func53, Try.ntmps53
    go_wp2_with (simp only [Try.add64 a b a0 b0, e1, e2])
    go_ret2
    exact ⟨rfl, rfl⟩
  · rw [addV, addE, if_neg h, if_neg h]
    have e1 : (a + b) / 18446744073709551616 = 1 := by omega
    obtain ⟨z, e2⟩ : ∃ z, (a + b) % 18446744073709551616 = z := ⟨_, rfl⟩
    go_enter Try.func53, Try.ntmps53
    go_wp2_with (simp only [Try.add64 a b a0 b0, e1, e2])
    go_ret2
    exact ⟨rfl, rfl⟩

theorem sub_any (a b : Int) (w : World) (ha : Word a) (hb : Word b) :
    Calls Try.prog 52 #[.int .u64 a, .int .u64 b] w fun e w' => e = .returned (.tuple #[.int .u64 (subV a b), .int .i64 (subE a b)]) ∧ w = w' := by
  obtain ⟨a0, a1⟩ := ha
  obtain ⟨b0, b1⟩ := hb
  by_cases h : a < b
  · rw [subV, subE, if_pos h, if_pos h]
    go_enter Try.func52, Try.ntmps52
    go_wp2
    go_ret2
    exact ⟨rfl, rfl⟩
  · rw [subV, subE, if_neg h, if_neg h]
    go_enter Try.func52, Try.ntmps52
    go_wp2
    go_ret2
    exact ⟨rfl, rfl⟩

theorem flat_length (l : List (Int × Int)) : (flat l).length = l.length * 2 := by
  induction l with
  | nil => rfl
  | cons f r ih =>
    have e : flat (f :: r) = .int .i64 f.1 :: .int .i64 f.2 :: flat r := by simp [flat]
    rw [e, List.length_cons, List.length_cons, List.length_cons, ih]
    omega
theorem eflat_length (l : List Ed) : (eflat l).length = l.length * 8 := by
  induction l with
  | nil => rfl
  | cons f r ih =>
    have e : eflat (f :: r) = ecells f ++ eflat r := by simp [eflat]
    have hl : (ecells f).length = 8 := rfl
    rw [e, List.length_append, hl, ih, List.length_cons]
    omega
theorem flat_get (l : List (Int × Int)) : ∀ j u, (flat l)[j]? = some u → j < l.length * 2 ∧ (j % 2 = 0 → u = .int .i64 (l.getD (j / 2) (0, 0)).1) ∧ (j % 2 = 1 → u = .int .i64 (l.getD (j / 2) (0, 0)).2) := by
  induction l with
  | nil => intro j u h; simp [flat] at h
  | cons f r ih =>
    intro j u h
    have e : flat (f :: r) = .int .i64 f.1 :: .int .i64 f.2 :: flat r := by simp [flat]
    rw [e] at h
    match j, h with
    | 0, h => simp at h; exact ⟨by simp <;> omega, fun _ => by simp [h], fun h2 => by omega⟩
    | 1, h => simp at h; exact ⟨by simp <;> omega, fun h2 => by omega, fun _ => by simp [h]⟩
    | j + 2, h =>
      simp at h
      obtain ⟨h1, h2, h3⟩ := ih j u h
      refine ⟨by simp <;> omega, fun h4 => ?_, fun h4 => ?_⟩
      · rw [show (j + 2) / 2 = j / 2 + 1 by omega]; simpa using h2 (by omega)
      · rw [show (j + 2) / 2 = j / 2 + 1 by omega]; simpa using h3 (by omega)
theorem eflat_get (l : List Ed) : ∀ j u, (eflat l)[j]? = some u → j < l.length * 8 ∧ (ecells (l.getD (j / 8) ed0))[j % 8]? = some u := by
  induction l with
  | nil => intro j u h; simp [eflat] at h
  | cons f r ih =>
    intro j u h
    have e : eflat (f :: r) = ecells f ++ eflat r := by simp [eflat]
    have hl : (ecells f).length = 8 := rfl
    rw [e] at h
    by_cases hj : j < 8
    · rw [List.getElem?_append_left (by rw [hl]; exact hj)] at h
      refine ⟨by simp <;> omega, ?_⟩
      rw [show j / 8 = 0 by omega, show j % 8 = j by omega]
      simpa using h
    · rw [List.getElem?_append_right (by rw [hl]; omega), hl] at h
      obtain ⟨h1, h2⟩ := ih (j - 8) u h
      refine ⟨by simp <;> omega, ?_⟩
      rw [show j / 8 = (j - 8) / 8 + 1 by omega, show j % 8 = (j - 8) % 8 by omega]
      simpa using h2
theorem flat_one (l : List (Int × Int)) : ∀ u ∈ flat l, u.oneCell' = true := by
  intro u hu
  obtain ⟨f, _, hf⟩ := List.mem_flatMap.1 hu
  simp at hf
  rcases hf with rfl | rfl <;> rfl
theorem eflat_one (l : List Ed) : ∀ u ∈ eflat l, u.oneCell' = true := by
  intro u hu
  obtain ⟨f, _, hf⟩ := List.mem_flatMap.1 hu
  simp [ecells] at hf
  rcases hf with rfl | rfl | rfl | rfl | rfl | rfl | rfl | rfl <;> rfl

def Clone39 (w : World) (l : List (Int × Int)) (n : Nat) (e : Ending) (w' : World) : Prop := ∃ a' c', e = .returned (.slice a' n c') ∧ SpotRow w' a' l ∧ Below w.heap.size w w' ∧ (a' = none → l = [] ∧ c' = 0) ∧ ∀ b off sp, a' = some ⟨b, off, sp⟩ → w.heap.size ≤ b
def Clone56 (w : World) (l : List Ed) (n : Nat) (e : Ending) (w' : World) : Prop := ∃ v, e = .returned v ∧ w'.ownsRow w.heap.size 52 8 v n (eflat l) ∧ Below w.heap.size w w'

set_option maxRecDepth 100000 in
set_option maxHeartbeats 1000000 in
theorem clone39_any (a : Option Addr) (c : Nat) (l : List (Int × Int)) (w : World) (hN : SpotRow w a l) (hnil : a = none → l = [] ∧ c = 0) (hl : l.length ≤ 1000) :
    Calls Try.prog 54 #[.slice a l.length c] w (Clone39 w l l.length) := by
  cases a with
  | none =>
    obtain ⟨rfl, rfl⟩ := hnil rfl
    have hq := fun (w : World) (a : Option Addr) (n c n' c' : Nat) => Lib.run_eql_slice_nil (P := Try.prog) w 28 62 a n c n' c' Try.underlying28
    go_enter Try.func54, Try.ntmps54
    go_wp2
    go_ret
    exact ⟨none, 0, rfl, .inl rfl, Below.refl _ _, fun _ => ⟨rfl, rfl⟩, fun _ _ _ h => by cases h⟩
  | some ad =>
    have HR := Lib.hid hN
    have HF1 := Lib.hid (flat_length l)
    have HF2 := Lib.hid (flat_one l)
    have HC : Hid (∀ j u, (flat l)[j]? = some u → w.cell? (ad.add j) = some u) := Lib.hid (by
      intro j u hu
      obtain ⟨h1, h2, h3⟩ := flat_get l j u hu
      rcases hN with rfl | ⟨b, off, e, hb, hc⟩
      · simp at h1
      · injection e with e
        subst e
        obtain ⟨k1, k2⟩ := hc (j / 2) (by omega)
        rw [Go.WideShapes.add_plain]
        rcases Nat.mod_two_eq_zero_or_one j with hm | hm
        · rw [h2 hm, ← k1]; congr 2; omega
        · rw [h3 hm, ← k2]; congr 2; omega)
    have HLT : Hid (l ≠ [] → ad.block < w.heap.size) := Lib.hid (fun h => by
      rcases hN with h0 | ⟨b, off, e, hb, hc⟩
      · exact absurd h0 h
      · injection e with e; subst e; exact hb)
    clear hN hnil
    obtain ⟨n, hn⟩ : ∃ n, l.length = n := ⟨_, rfl⟩
    rw [hn] at hl HF1 ⊢
    have HN := Lib.hid hn
    clear hn
    obtain ⟨i0, hi, hz0, hz1, hz2⟩ := info_parts spot_info
    have hq := fun (w : World) (a : Option Addr) (n c n' c' : Nat) => Lib.run_eql_slice_nil (P := Try.prog) w 28 62 a n c n' c' Try.underlying28
    go_enter Try.func54, Try.ntmps54
    go_wp2_with (at_builtin; refine wpList_append_own _ rfl (.tmp 5) (.tmp 6) 28 rfl w.heap.size 62 i0 (.agg #[.int .i64 0, .int .i64 0]) 2 16 Try.underlying28 hi hz0 hz1 hz2 rfl (by decide) _ 0 [] rfl (World.ownsRow_made w #[] 0 (Nat.le_refl _) (Nat.zero_le _) rfl) ad n c (flat l) rfl HF1.out ?c1 HF2.out ?c3 ?c4 ?c5 ?_)
    case c1 =>
      intro j u hu
      have h0 : l ≠ [] := by rintro rfl; simp [flat] at hu
      rw [World.cell?_alloc_old _ _ _ (by have h := HLT.out h0; have h2 : (ad.add j).block = ad.block := (by unfold Addr.add; split <;> rfl); omega)]
      exact HC.out j u hu
    case c3 => unfold maxLen; omega
    case c4 => omega
    case c5 => simp
    intro v' w1 hown hgrow _
    have HB : Hid (Below w.heap.size w w1) := Lib.hid (((Below.refl _ w).alloc (Nat.le_refl _) (.cells #[] 62)).grown hgrow (by simp) (fun g hg => by simp [Value.ownBlock] at hg; omega))
    have HO : Hid (w1.ownsRow w.heap.size 62 2 v' l.length (flat l)) := Lib.hid (by
      rw [HN.out]
      exact hown)
    clear hown hgrow
    obtain ⟨a', c', hv, hr⟩ := SpotRow.of_own HO.out
    have HR' := Lib.hid hr
    rw [HN.out] at hv
    subst hv
    clear hr
    have HNil : Hid (a' = none → l = [] ∧ c' = 0) := Lib.hid (by
      intro e
      subst e
      rcases HO.out.2 with ⟨h1, h2⟩ | ⟨g, cap, cur, h1, _⟩
      · injection h1 with _ _ h3
        exact ⟨List.eq_nil_of_length_eq_zero h2, h3⟩
      · injection h1 with h1
        cases h1)
    have HFr : Hid (∀ b off sp, a' = some ⟨b, off, sp⟩ → w.heap.size ≤ b) := Lib.hid (by
      intro b off sp e
      subst e
      rcases HO.out.2 with ⟨h1, h2⟩ | ⟨g, cap, cur, h1, h2, _⟩
      · injection h1 with h1
        cases h1
      · injection h1 with h1
        injection h1 with h1
        injection h1 with h1
        omega)
    go_wp2
    go_ret
    exact ⟨a', c', rfl, HR'.out, HB.out, HNil.out, HFr.out⟩

set_option maxRecDepth 100000 in
set_option maxHeartbeats 1000000 in
theorem clone56_any (a : Option Addr) (c : Nat) (l : List Ed) (w : World) (hN : EdgeRow w a l) (hnil : a = none → l = [] ∧ c = 0) (hl : l.length ≤ 1000) :
    Calls Try.prog 55 #[.slice a l.length c] w (Clone56 w l l.length) := by
  cases a with
  | none =>
    obtain ⟨rfl, rfl⟩ := hnil rfl
    have hq := fun (w : World) (a : Option Addr) (n c n' c' : Nat) => Lib.run_eql_slice_nil (P := Try.prog) w 29 52 a n c n' c' Try.underlying29
    go_enter Try.func55, Try.ntmps55
    go_wp2
    go_ret
    exact ⟨_, rfl, ⟨rfl, .inl ⟨rfl, rfl⟩⟩, Below.refl _ _⟩
  | some ad =>
    have HF1 := Lib.hid (eflat_length l)
    have HF2 := Lib.hid (eflat_one l)
    have HC : Hid (∀ j u, (eflat l)[j]? = some u → w.cell? (ad.add j) = some u) := Lib.hid (by
      intro j u hu
      obtain ⟨h1, h2⟩ := eflat_get l j u hu
      rcases hN with rfl | ⟨b, off, e, hb, hc⟩
      · simp at h1
      · injection e with e
        subst e
        have k1 := hc (j / 8) (by omega) (j % 8) u h2
        rw [Go.WideShapes.add_plain, ← k1]
        congr 2
        omega)
    have HLT : Hid (l ≠ [] → ad.block < w.heap.size) := Lib.hid (fun h => by
      rcases hN with h0 | ⟨b, off, e, hb, hc⟩
      · exact absurd h0 h
      · injection e with e; subst e; exact hb)
    clear hN hnil
    obtain ⟨n, hn⟩ : ∃ n, l.length = n := ⟨_, rfl⟩
    rw [hn] at hl HF1 ⊢
    have HN := Lib.hid hn
    clear hn
    obtain ⟨i0, hi, hz0, hz1, hz2⟩ := info_parts edge_info
    have hq := fun (w : World) (a : Option Addr) (n c n' c' : Nat) => Lib.run_eql_slice_nil (P := Try.prog) w 29 52 a n c n' c' Try.underlying29
    go_enter Try.func55, Try.ntmps55
    go_wp2_with (at_builtin; refine wpList_append_own _ rfl (.tmp 5) (.tmp 6) 29 rfl w.heap.size 52 i0 (.agg #[.int .i64 0, .int .i64 0, .int .u64 0, .int .u64 0, .int .u64 0, .int .u64 0, .int .u64 0, .int .u64 0]) 8 64 Try.underlying29 hi hz0 hz1 hz2 rfl (by decide) _ 0 [] rfl (World.ownsRow_made w #[] 0 (Nat.le_refl _) (Nat.zero_le _) rfl) ad n c (eflat l) rfl HF1.out ?c1 HF2.out ?c3 ?c4 ?c5 ?_)
    case c1 =>
      intro j u hu
      have h0 : l ≠ [] := by rintro rfl; simp [eflat] at hu
      rw [World.cell?_alloc_old _ _ _ (by have h := HLT.out h0; have h2 : (ad.add j).block = ad.block := (by unfold Addr.add; split <;> rfl); omega)]
      exact HC.out j u hu
    case c3 => unfold maxLen; omega
    case c4 => omega
    case c5 => simp
    intro v' w1 hown hgrow _
    have HB : Hid (Below w.heap.size w w1) := Lib.hid (((Below.refl _ w).alloc (Nat.le_refl _) (.cells #[] 52)).grown hgrow (by simp) (fun g hg => by simp [Value.ownBlock] at hg; omega))
    have HO : Hid (w1.ownsRow w.heap.size 52 8 v' n (eflat l)) := Lib.hid (by
      exact hown)
    clear hown hgrow
    go_wp2
    go_ret
    exact ⟨_, rfl, HO.out, HB.out⟩
end Go.Proofs.Ytnnimjaigciedaa
