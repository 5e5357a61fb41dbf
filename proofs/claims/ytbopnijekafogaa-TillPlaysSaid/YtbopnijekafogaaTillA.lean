/-
  A till's two blocks; check, take.
-/
import Derived.Test.YtbopnijekafogaaRow
namespace Go.Proofs.Ytbopnijekafogaa
open Go.RowKit
set_option linter.unusedVariables false

/-- Accounts as cells: what one has, its next order's number. -/
def ac (l : List (Int × Int)) : List Value := l.flatMap fun a => [.int .u64 a.1, .int .u64 a.2]
theorem ac_cons (f : Int × Int) (r : List (Int × Int)) : ac (f :: r) = .int .u64 f.1 :: .int .u64 f.2 :: ac r := by simp [ac]
theorem ac_length (l : List (Int × Int)) : (ac l).length = l.length * 2 := by
  induction l with
  | nil => rfl
  | cons f r ih => rw [ac_cons, List.length_cons, List.length_cons, List.length_cons, ih]; omega
theorem ac_has (l : List (Int × Int)) : ∀ k, k < l.length → (ac l)[k * 2]? = some (.int .u64 (l.getD k (0, 0)).1) := by
  induction l with
  | nil => intro k h; simp at h
  | cons f r ih =>
    intro k h
    rw [ac_cons]
    match k, h with
    | 0, _ => simp
    | k + 1, h =>
      rw [show (k + 1) * 2 = k * 2 + 1 + 1 by omega]
      simpa using ih k (by simpa using h)
theorem ac_next (l : List (Int × Int)) : ∀ k, k < l.length → (ac l)[k * 2 + 1]? = some (.int .u64 (l.getD k (0, 0)).2) := by
  induction l with
  | nil => intro k h; simp at h
  | cons f r ih =>
    intro k h
    rw [ac_cons]
    match k, h with
    | 0, _ => simp
    | k + 1, h =>
      rw [show (k + 1) * 2 + 1 = (k * 2 + 1) + 1 + 1 by omega]
      simpa using ih k (by simpa using h)
theorem ac_set_has (l : List (Int × Int)) (x : Int) : ∀ k, k < l.length → (ac l).set (k * 2) (.int .u64 x) = ac (l.set k (x, (l.getD k (0, 0)).2)) := by
  induction l with
  | nil => intro k h; simp at h
  | cons f r ih =>
    intro k h
    rw [ac_cons]
    match k, h with
    | 0, _ => simp [ac_cons]
    | k + 1, h =>
      rw [show (k + 1) * 2 = k * 2 + 1 + 1 by omega, List.set_cons_succ, List.set_cons_succ, List.set_cons_succ, ac_cons, ih k (by simpa using h)]
      simp
theorem ac_set_next (l : List (Int × Int)) (x : Int) : ∀ k, k < l.length → (ac l).set (k * 2 + 1) (.int .u64 x) = ac (l.set k ((l.getD k (0, 0)).1, x)) := by
  induction l with
  | nil => intro k h; simp at h
  | cons f r ih =>
    intro k h
    rw [ac_cons]
    match k, h with
    | 0, _ => simp [ac_cons]
    | k + 1, h =>
      rw [show (k + 1) * 2 + 1 = (k * 2 + 1) + 1 + 1 by omega, List.set_cons_succ, List.set_cons_succ, List.set_cons_succ, ac_cons, ih k (by simpa using h)]
      simp

/-- Only the blocks b and g, and what is new, have turned. -/
structure Only2 (b g : Nat) (w w' : World) : Prop where
  os : w'.os = w.os
  tape : w'.tape = w.tape
  output : w'.output = w.output
  size : w.heap.size ≤ w'.heap.size
  block : ∀ i, i < w.heap.size → i ≠ b → i ≠ g → w'.heap[i]? = w.heap[i]?

theorem Only2.refl (b g : Nat) (w : World) : Only2 b g w w := ⟨rfl, rfl, rfl, Nat.le_refl _, fun _ _ _ _ => rfl⟩
theorem Only2.trans {b g : Nat} {u v w : World} (h : Only2 b g u v) (k : Only2 b g v w) : Only2 b g u w :=
  ⟨k.os.trans h.os, k.tape.trans h.tape, k.output.trans h.output, Nat.le_trans h.size k.size, fun i hi h1 h2 => (k.block i (Nat.lt_of_lt_of_le hi h.size) h1 h2).trans (h.block i hi h1 h2)⟩
theorem Only2.setCell {b g : Nat} {a w : World} (h : Only2 b g a w) {p : Addr} (hp : p.block = b ∨ p.block = g) (u : Value) : Only2 b g a (w.setCell p u) :=
  ⟨h.os, h.tape, h.output, by simpa [World.setCell] using h.size, fun i hi h1 h2 => (Below.heap_setCell w p u i (by
    rintro rfl
    rcases hp with hp | hp
    · exact h1 hp
    · exact h2 hp)).trans (h.block i hi h1 h2)⟩
theorem Only2.setg (b g o : Nat) (w : World) (u : Value) : Only2 b g w (w.setCell ⟨g, o, none⟩ u) := (Only2.refl b g w).setCell (p := ⟨g, o, none⟩) (.inr rfl) u
theorem Only2.setb (b g o : Nat) (w : World) (u : Value) : Only2 b g w (w.setCell ⟨b, o, none⟩ u) := (Only2.refl b g w).setCell (p := ⟨b, o, none⟩) (.inl rfl) u
theorem Only2.below {b g B : Nat} {a w : World} (h : Only2 b g a w) (hb : B ≤ b) (hg : B ≤ g) (hB : B ≤ a.heap.size) : Below B a w :=
  ⟨h.os, h.tape, h.output, h.size, fun i hi => h.block i (by omega) (by omega) (by omega)⟩
theorem Below.only {b g : Nat} {a w : World} (h : Below a.heap.size a w) : Only2 b g a w :=
  ⟨h.os, h.tape, h.output, h.size, fun i hi _ _ => h.block i hi⟩
theorem Blk.only {b g i : Nat} {a w : World} {t : TypeId} {cs : List Value} (h : Blk a i t cs) (ho : Only2 b g a w) (h1 : i ≠ b) (h2 : i ≠ g) : Blk w i t cs := (ho.block i h.lt h1 h2).trans h

/-- A till: b its block, g its accounts'. -/
structure AtT (w : World) (b g : Nat) (l : List (Int × Int)) (K : Int) : Prop where
  top : Blk w b 54 [.slice (some ⟨g, 0, none⟩) l.length l.length, .int .u64 K]
  row : Blk w g 56 (ac l)
  ok : ∀ a ∈ l, Word a.1 ∧ Word a.2
  kept : Word K
  small : l.length ≤ 16

section
variable {w w' : World} {b g : Nat} {l : List (Int × Int)} {K : Int}
theorem AtT.ne (h : AtT w b g l K) : b ≠ g := h.top.ne_ h.row (by decide)
theorem AtT.hasCell (h : AtT w b g l K) (k : Nat) (hk : k < l.length) : w.cell? ⟨g, k * 2, none⟩ = some (.int .u64 (l.getD k (0, 0)).1) := (h.row.cell _).trans (ac_has l k hk)
theorem AtT.nextCell (h : AtT w b g l K) (k : Nat) (hk : k < l.length) : w.cell? ⟨g, k * 2 + 1, none⟩ = some (.int .u64 (l.getD k (0, 0)).2) := (h.row.cell _).trans (ac_next l k hk)
theorem AtT.word (h : AtT w b g l K) (k : Nat) (hk : k < l.length) : Word (l.getD k (0, 0)).1 ∧ Word (l.getD k (0, 0)).2 := by
  rw [show l.getD k (0, 0) = l[k] by simp [List.getD, hk]]
  exact h.ok _ (List.getElem_mem hk)
theorem AtT.setHas (h : AtT w b g l K) (k : Nat) (hk : k < l.length) (x : Int) (hx : Word x) : AtT (w.setCell ⟨g, k * 2, none⟩ (.int .u64 x)) b g (l.set k (x, (l.getD k (0, 0)).2)) K where
  top := by rw [List.length_set]; exact h.top.far (p := ⟨g, k * 2, none⟩) h.ne _
  row := by rw [← ac_set_has l x k hk]; exact h.row.set_ _ _
  ok := fun a ha => by
    rcases List.mem_or_eq_of_mem_set ha with h1 | rfl
    · exact h.ok a h1
    · exact ⟨hx, (h.word k hk).2⟩
  kept := h.kept
  small := by rw [List.length_set]; exact h.small
theorem AtT.setNext (h : AtT w b g l K) (k : Nat) (hk : k < l.length) (x : Int) (hx : Word x) : AtT (w.setCell ⟨g, k * 2 + 1, none⟩ (.int .u64 x)) b g (l.set k ((l.getD k (0, 0)).1, x)) K where
  top := by rw [List.length_set]; exact h.top.far (p := ⟨g, k * 2 + 1, none⟩) h.ne _
  row := by rw [← ac_set_next l x k hk]; exact h.row.set_ _ _
  ok := fun a ha => by
    rcases List.mem_or_eq_of_mem_set ha with h1 | rfl
    · exact h.ok a h1
    · exact ⟨(h.word k hk).1, hx⟩
  kept := h.kept
  small := by rw [List.length_set]; exact h.small
theorem AtT.setKept (h : AtT w b g l K) (x : Int) (hx : Word x) : AtT (w.setCell ⟨b, 1, none⟩ (.int .u64 x)) b g l x where
  top := h.top.set_ 1 _
  row := h.row.far (p := ⟨b, 1, none⟩) (fun e => h.ne e.symm) _
  ok := h.ok
  kept := hx
  small := h.small
theorem AtT.keep (h : AtT w b g l K) (hB : Below w.heap.size w w') : AtT w' b g l K := ⟨h.top.below hB h.top.lt, h.row.below hB h.row.lt, h.ok, h.kept, h.small⟩
theorem AtT.only {b' g' : Nat} (h : AtT w b g l K) (ho : Only2 b' g' w w') (h1 : b ≠ b') (h2 : b ≠ g') (h3 : g ≠ b') (h4 : g ≠ g') : AtT w' b g l K := ⟨h.top.only ho h1 h2, h.row.only ho h3 h4, h.ok, h.kept, h.small⟩
theorem AtT.sl (h : AtT w b g l K) : w.cell? ⟨b, 0, none⟩ = some (.slice (some ⟨g, 0, none⟩) l.length l.length) := h.top.cell 0
theorem AtT.kp (h : AtT w b g l K) : w.cell? ⟨b, 1, none⟩ = some (.int .u64 K) := h.top.cell 1
end

/-- Is there such an account? -/
def inB (who : Int) (n : Nat) : Prop := 0 ≤ who ∧ who < n
def chkE (who : Int) (n : Nat) : Int := if 0 ≤ who ∧ who < n then 0 else 1

theorem check_nil (who : Int) (w : World) : Calls Try.prog 27 #[.pointer none, .int .i64 who] w fun e w' => e = .returned (.int .i64 2) ∧ w = w' := by
  go_enter Try.func27, Try.ntmps27
  go_wp2
  go_ret
  exact ⟨rfl, rfl⟩

set_option maxHeartbeats 1000000 in
theorem check_any (b g : Nat) (l : List (Int × Int)) (K who : Int) (w : World) (h : AtT w b g l K) :
    Calls Try.prog 27 #[.pointer (some ⟨b, 0, none⟩), .int .i64 who] w fun e w' => e = .returned (.int .i64 (chkE who l.length)) ∧ w = w' := by
  have hc := h.sl
  have hs := h.small
  obtain ⟨n, hn⟩ : ∃ n, l.length = n := ⟨_, rfl⟩
  rw [hn] at hc hs ⊢
  clear h hn
  by_cases h1 : who < 0
  · have HE := Lib.hid (show chkE who n = 1 from if_neg (by omega))
    go_enter Try.func27, Try.ntmps27
    go_wp2
    go_ret
    exact ⟨by rw [HE.out]; rfl, rfl⟩
  · by_cases h2 : who < n
    · have HE := Lib.hid (show chkE who n = 0 from if_pos (by omega))
      have d : decide ((n : Int) ≤ who) = false := decide_eq_false (by omega)
      go_enter Try.func27, Try.ntmps27
      go_wp2
      go_ret
      exact ⟨by rw [HE.out]; rfl, rfl⟩
    · have HE := Lib.hid (show chkE who n = 1 from if_neg (by omega))
      have d : decide ((n : Int) ≤ who) = true := decide_eq_true (by omega)
      go_enter Try.func27, Try.ntmps27
      go_wp2
      go_ret
      exact ⟨by rw [HE.out]; rfl, rfl⟩

theorem subE_cases (a b : Int) : (a < b ∧ subE a b = 12 ∧ subV a b = 0) ∨ (b ≤ a ∧ subE a b = 0 ∧ subV a b = a - b) := by
  unfold subE subV
  by_cases h : a < b
  · exact .inl ⟨h, if_pos h, if_pos h⟩
  · exact .inr ⟨by omega, if_neg h, if_neg h⟩

set_option maxHeartbeats 1000000 in
theorem take_no (b g k : Nat) (l : List (Int × Int)) (K n : Int) (w : World) (h : AtT w b g l K) (hk : k < l.length) (hn : Word n) (hlt : (l.getD k (0, 0)).1 < n) :
    Calls Try.prog 29 #[.pointer (some ⟨b, 0, none⟩), .int .i64 k, .int .u64 n] w fun e w' => e = .returned (.int .i64 12) ∧ w = w' := by
  have hc := h.sl
  have hs := h.small
  have hh := h.hasCell k hk
  have hw := (h.word k hk).1
  obtain ⟨x, hx⟩ : ∃ x, (l.getD k (0, 0)).1 = x := ⟨_, rfl⟩
  rw [hx] at hh hw hlt
  obtain ⟨m, hm⟩ : ∃ m, l.length = m := ⟨_, rfl⟩
  rw [hm] at hc hs hk
  clear h hm hx
  have e1 : subE x n = 12 := if_pos hlt
  have HV := Lib.hid (sub_any x n w hw hn)
  rw [e1] at HV
  clear e1
  go_enter Try.func29, Try.ntmps29
  go_wp2_with fail
  refine HV.out.mono ?_
  rintro e w' ⟨rfl, rfl⟩
  go_wp2
  go_ret
  exact ⟨rfl, rfl⟩

def TillPost (b g : Nat) (l : List (Int × Int)) (K r : Int) (w : World) (e : Ending) (w' : World) : Prop := e = .returned (.int .i64 r) ∧ AtT w' b g l K ∧ Only2 b g w w'

set_option maxHeartbeats 1000000 in
theorem take_yes (b g k : Nat) (l : List (Int × Int)) (K n : Int) (w : World) (h : AtT w b g l K) (hk : k < l.length) (hn : Word n) (hlt : n ≤ (l.getD k (0, 0)).1) :
    Calls Try.prog 29 #[.pointer (some ⟨b, 0, none⟩), .int .i64 k, .int .u64 n] w (TillPost b g (l.set k ((l.getD k (0, 0)).1 - n, (l.getD k (0, 0)).2)) K 0 w) := by
  have H := Lib.hid h
  have hc := h.sl
  have hs := h.small
  have hh := h.hasCell k hk
  have hf := h.row.frozen (k * 2)
  have hw := (h.word k hk).1
  have HW : Word ((l.getD k (0, 0)).1 - n) := by unfold Word at *; omega
  have HA := Lib.hid (h.setHas k hk _ HW)
  obtain ⟨x, hx⟩ : ∃ x, (l.getD k (0, 0)).1 = x := ⟨_, rfl⟩
  rw [hx] at hh hw hlt HA ⊢
  obtain ⟨m, hm⟩ : ∃ m, l.length = m := ⟨_, rfl⟩
  rw [hm] at hc hs hk
  clear h hm hx HW
  have e1 : subE x n = 0 := if_neg (by omega)
  have e2 : subV x n = x - n := if_neg (by omega)
  have HV := Lib.hid (sub_any x n w hw hn)
  rw [e1, e2] at HV
  clear e1 e2
  obtain ⟨y, hy⟩ : ∃ y, x - n = y := ⟨_, rfl⟩
  rw [hy] at HV HA ⊢
  clear hy hw hlt hn
  go_enter Try.func29, Try.ntmps29
  go_wp2_with fail
  refine HV.out.mono ?_
  rintro e w' ⟨rfl, rfl⟩
  go_wp2
  go_ret
  exact ⟨rfl, HA.out, Only2.setg _ _ _ _ _⟩
end Go.Proofs.Ytbopnijekafogaa
