/-
  Payments, secrets and steps that came in; why a verdict that isn't open never turns.
-/
import Derived.Test.YteoeoomdjfhmbaaDoorFlat
namespace Go.Proofs.YteoeoomdjfhmbaaDoor
open Go.RowKit
set_option linter.unusedVariables false

structure Cnd where
  id : Int
  side : Int
  amt : Int
  h : List Nat
  ex : Int
def cnd0 : Cnd := ⟨0, 0, 0, z32, 0⟩
def Cnd.cells (c : Cnd) : List Value := ccells c.id c.side c.amt c.h c.ex
structure CndRow (w : World) (A : Option Addr) (cs : List Cnd) : Prop where
  at_ : cs = [] ∨ ∃ b o, A = some ⟨b, o, none⟩ ∧ b < w.heap.size ∧ ∀ i, i < cs.length → w.rangeAt b (o + i * 36) (cs.getD i cnd0).cells
  each : ∀ i, i < cs.length → (cs.getD i cnd0).h.length = 32 ∧ ∀ x ∈ (cs.getD i cnd0).h, x < 256
structure SecRow (w : World) (A : Option Addr) (cs : List (List Nat)) : Prop where
  at_ : cs = [] ∨ ∃ b o, A = some ⟨b, o, none⟩ ∧ b < w.heap.size ∧ ∀ i, i < cs.length → w.rangeAt b (o + i * 32) (w8 (cs.getD i z32))
  each : ∀ i, i < cs.length → (cs.getD i z32).length = 32 ∧ ∀ x ∈ cs.getD i z32, x < 256
structure StpRow (w : World) (A : Option Addr) (cs : List Nat) : Prop where
  at_ : cs = [] ∨ ∃ b o, A = some ⟨b, o, none⟩ ∧ b < w.heap.size ∧ ∀ i, i < cs.length → w.cell? ⟨b, o + i, none⟩ = some (.int .u8 ((cs.getD i 0 : Nat) : Int))
  each : ∀ i, i < cs.length → cs.getD i 0 < 256
theorem range_below {w w' : World} {b o : Nat} {cs : List Value} {B : Nat} (h : w.rangeAt b o cs) (hB : Below B w w') (hb : b < B) : w'.rangeAt b o cs := fun j v hv => (hB.cell (p := ⟨b, o + j, none⟩) hb).trans (h j v hv)
theorem CndRow.below {w w' : World} {A : Option Addr} {cs : List Cnd} (h : CndRow w A cs) (hB : Below w.heap.size w w') : CndRow w' A cs := by
  refine ⟨?_, h.each⟩
  rcases h.at_ with h1 | ⟨b, o, ha, hb, hx⟩
  · exact .inl h1
  · exact .inr ⟨b, o, ha, Nat.lt_of_lt_of_le hb hB.size, fun i hi => range_below (hx i hi) hB hb⟩
theorem SecRow.below {w w' : World} {A : Option Addr} {cs : List (List Nat)} (h : SecRow w A cs) (hB : Below w.heap.size w w') : SecRow w' A cs := by
  refine ⟨?_, h.each⟩
  rcases h.at_ with h1 | ⟨b, o, ha, hb, hx⟩
  · exact .inl h1
  · exact .inr ⟨b, o, ha, Nat.lt_of_lt_of_le hb hB.size, fun i hi => range_below (hx i hi) hB hb⟩
theorem StpRow.below {w w' : World} {A : Option Addr} {cs : List Nat} (h : StpRow w A cs) (hB : Below w.heap.size w w') : StpRow w' A cs := by
  refine ⟨?_, h.each⟩
  rcases h.at_ with h1 | ⟨b, o, ha, hb, hx⟩
  · exact .inl h1
  · exact .inr ⟨b, o, ha, Nat.lt_of_lt_of_le hb hB.size, fun i hi => (hB.cell (p := ⟨b, o + i, none⟩) hb).trans (hx i hi)⟩

/-- What holds of a payment's last verdict. -/
structure Good (T : List (List Nat × List Nat × Int)) (H : Int) (c : Cnd) (v : Int) : Prop where
  num : v = 0 ∨ v = 1 ∨ v = 2
  paid : v = 1 → isIn T c.h = true ∧ htOf T c.h ≤ c.ex
  void : v = 2 → c.ex < H ∧ ¬ (isIn T c.h = true ∧ htOf T c.h ≤ c.ex)
theorem Good.zero (T : List (List Nat × List Nat × Int)) (H : Int) (c : Cnd) : Good T H c 0 := ⟨.inl rfl, by simp, by simp⟩
theorem Good.later {T : List (List Nat × List Nat × Int)} {H H' : Int} {c : Cnd} {v : Int} (h : Good T H c v) (hH : H ≤ H') : Good T H' c v := ⟨h.num, h.paid, fun e => ⟨Int.lt_of_lt_of_le (h.void e).1 hH, (h.void e).2⟩⟩
theorem look_tell_old {T : List (List Nat × List Nat × Int)} {s h : List Nat} {H : Int} (hi : isIn T h = true) : lookB (tellT T s H) h = lookB T h := by
  unfold tellT
  split
  · rfl
  · unfold isIn at hi
    unfold lookB at hi ⊢
    rw [List.find?_append]
    cases he : T.find? (fun p => decide (p.1 = h)) with
    | none => rw [he] at hi; cases hi
    | some p => rfl
theorem look_tell_new {T : List (List Nat × List Nat × Int)} {s h : List Nat} {H : Int} (hi : isIn T h = false) : lookB (tellT T s H) h = none ∨ lookB (tellT T s H) h = some (s, H) := by
  have h0 : lookB T h = none := by
    unfold isIn at hi
    cases he : lookB T h with
    | none => rfl
    | some p => rw [he] at hi; cases hi
  unfold tellT
  split
  · exact .inl h0
  · unfold lookB at h0 ⊢
    rw [Option.map_eq_none_iff] at h0
    rw [List.find?_append, h0]
    by_cases e : hsh s = h
    · right; simp [e]
    · left; simp [e]
theorem Good.tell {T : List (List Nat × List Nat × Int)} {H : Int} {c : Cnd} {v : Int} (h : Good T H c v) (s : List Nat) : Good (tellT T s H) H c v := by
  cases hi : isIn T c.h with
  | true =>
    have e := look_tell_old (s := s) (H := H) hi
    have e1 : isIn (tellT T s H) c.h = isIn T c.h := by unfold isIn; rw [e]
    have e2 : htOf (tellT T s H) c.h = htOf T c.h := by unfold htOf; rw [e]
    exact ⟨h.num, fun x => by rw [e1, e2]; exact h.paid x, fun x => by rw [e1, e2]; exact h.void x⟩
  | false =>
    refine ⟨h.num, fun x => ?_, fun x => ⟨(h.void x).1, ?_⟩⟩
    · have := (h.paid x).1
      rw [hi] at this
      cases this
    · have hx := (h.void x).1
      rintro ⟨h1, h2⟩
      rcases look_tell_new (s := s) (H := H) hi with e | e
      · unfold isIn at h1; rw [e] at h1; cases h1
      · unfold htOf at h2
        rw [e] at h2
        simp at h2
        omega
theorem Good.same {T : List (List Nat × List Nat × Int)} {H : Int} {c : Cnd} {v : Int} (h : Good T H c v) (hv : v ≠ 0) : verd (isIn T c.h) (htOf T c.h) c.ex H = v := by
  unfold verd
  rcases h.num with e | e | e
  · exact absurd e hv
  · have := h.paid e
    rw [if_pos (by simp [this.1, this.2]), e]
  · have := h.void e
    rw [if_neg (by simpa using this.2), if_pos this.1, e]
theorem Good.new (T : List (List Nat × List Nat × Int)) (H : Int) (c : Cnd) : Good T H c (verd (isIn T c.h) (htOf T c.h) c.ex H) := by
  unfold verd
  by_cases h1 : (isIn T c.h && decide (htOf T c.h ≤ c.ex)) = true
  · rw [if_pos h1]
    exact ⟨.inr (.inl rfl), fun _ => by simpa using h1, fun e => absurd e (by decide)⟩
  · rw [if_neg h1]
    by_cases h2 : c.ex < H
    · rw [if_pos h2]
      exact ⟨.inr (.inr rfl), fun e => absurd e (by decide), fun _ => ⟨h2, by simpa using h1⟩⟩
    · rw [if_neg h2]
      exact Good.zero _ _ _
/-- All payments' last verdicts. -/
def Goods (T : List (List Nat × List Nat × Int)) (H : Int) (cs : List Cnd) (vs : List Int) : Prop := vs.length = cs.length ∧ ∀ j, j < cs.length → Good T H (cs.getD j cnd0) (vs.getD j 0)
theorem Goods.set {T : List (List Nat × List Nat × Int)} {H : Int} {cs : List Cnd} {vs : List Int} (h : Goods T H cs vs) (k : Nat) (v : Int) (hv : Good T H (cs.getD k cnd0) v) : Goods T H cs (vs.set k v) := by
  refine ⟨by simpa using h.1, fun j hj => ?_⟩
  by_cases e : k = j
  · subst e
    have : (vs.set k v).getD k 0 = v := by simp [List.getD, h.1, hj]
    rw [this]; exact hv
  · have : (vs.set k v).getD j 0 = vs.getD j 0 := by simp [List.getD, e]
    rw [this]; exact h.2 j hj
theorem Goods.tell {T : List (List Nat × List Nat × Int)} {H : Int} {cs : List Cnd} {vs : List Int} (h : Goods T H cs vs) (s : List Nat) : Goods (tellT T s H) H cs vs := ⟨h.1, fun j hj => (h.2 j hj).tell s⟩
theorem Goods.later {T : List (List Nat × List Nat × Int)} {H H' : Int} {cs : List Cnd} {vs : List Int} (h : Goods T H cs vs) (hH : H ≤ H') : Goods T H' cs vs := ⟨h.1, fun j hj => (h.2 j hj).later hH⟩
def i64s (vs : List Int) : List Value := vs.map (Value.int .i64)
theorem i64s_get (vs : List Int) (k : Nat) (hk : k < vs.length) : (i64s vs)[k]? = some (.int .i64 (vs.getD k 0)) := by
  simp [i64s, List.getD, hk]
theorem i64s_set (vs : List Int) (k : Nat) (v : Int) : (i64s vs).set k (.int .i64 v) = i64s (vs.set k v) := by
  simp [i64s, List.map_set]
end Go.Proofs.YteoeoomdjfhmbaaDoor
