/-
  What goes over each channel of a trail, in numbers, and fees as rows.
-/
import Derived.Test.YtnnimjaigciedaaPathG
import Derived.Test.YtnnimjaigciedaaBack
namespace Go.Proofs.Ytnnimjaigciedaa
open Go.RowKit
set_option linter.unusedVariables false

/-- The amounts along steps. -/
def amtsE (amt : Int) (s : List Stp) : Int × List Int := Mon.backE amt (feesL s)
/-- Can each step send what goes over it? -/
def canL (s : List Stp) (l : List Int) (k : Nat) : Prop := ∀ i, i < k → l.getD i 0 ≤ (s.getD i stp00).c
/-- Is a trail a route that can be paid? -/
def PayOk (amt : Int) (s : List Stp) : Prop := (amtsE amt s).1 = 0 ∧ canL s (amtsE amt s).2 s.length
def stE (s : List Stp) : List Int := s.map fun q => q.e
def eRow (s : List Stp) (k n : Nat) : List Int := (s.take k).map (fun q => q.e) ++ List.replicate (n - k) 0
theorem eRow_zero (s : List Stp) (n : Nat) : ins (eRow s 0 n) = List.replicate n (.int .i64 0) := by
  unfold eRow ins; simp
theorem eRow_length (s : List Stp) (k n : Nat) (h : k ≤ n) (hn : s.length = n) : (eRow s k n).length = n := by
  unfold eRow; simp; omega
theorem eRow_set (s : List Stp) (k n : Nat) (h : k < n) (hn : s.length = n) (e : Int) (he : (s.getD k stp00).e = e) : (ins (eRow s k n)).set k (.int .i64 e) = ins (eRow s (k + 1) n) := by
  unfold ins eRow
  rw [List.take_succ_eq_append_getElem (by omega), List.map_append, List.map_append, List.map_append, List.map_append]
  have hl : ((s.take k).map (fun q => q.e)).length = k := by simp; omega
  have e1 : s.getD k stp00 = s[k] := by simp [List.getD, show k < s.length by omega]
  rw [e1] at he
  rw [show n - k = (n - (k + 1)) + 1 by omega, List.replicate_succ]
  rw [List.set_append_right _ _ (by simp; omega)]
  simp only [List.length_map, List.length_take, List.map_cons, List.map_nil, List.append_assoc, List.cons_append, List.nil_append]
  rw [show k - min k s.length = 0 by omega, List.set_cons_zero, he]
theorem eRow_full (s : List Stp) (n : Nat) (hn : s.length = n) : eRow s n n = stE s := by
  unfold eRow stE; rw [List.take_of_length_le (by omega)]; simp
theorem eRow_at (s : List Stp) (k n : Nat) (h : k < n) (hn : s.length = n) : (ins (eRow s k n))[k]? = some (.int .i64 0) := by
  unfold ins eRow
  rw [List.map_append, List.getElem?_append_right (by simp; omega)]
  simp only [List.length_map, List.length_take]
  rw [show k - min k s.length = 0 by omega, show n - k = (n - (k + 1)) + 1 by omega, List.replicate_succ]
  rfl
theorem canL_step {s : List Stp} {l : List Int} {k : Nat} {a : Int} {q : Stp} (h : canL s l k) (ha : l.getD k 0 = a) (hq : s.getD k stp00 = q) : (a ≤ q.c → canL s l (k + 1)) ∧ (¬ a ≤ q.c → ∀ n, k < n → ¬ canL s l n) := by
  refine ⟨fun h1 i hi => ?_, fun h1 n hn h2 => ?_⟩
  · rcases Nat.lt_or_eq_of_le (Nat.le_of_lt_succ hi) with h3 | rfl
    · exact h i h3
    · rw [ha, hq]; exact h1
  · have := h2 k hn
    rw [ha, hq] at this
    exact h1 this
theorem pflat_at (l : List (Int × Int)) : ∀ i, i < l.length → (pflat l)[i * 2]? = some (.int .u64 (l.getD i (0, 0)).1) ∧ (pflat l)[i * 2 + 1]? = some (.int .u64 (l.getD i (0, 0)).2) := by
  induction l with
  | nil => intro i h; simp at h
  | cons f t ih =>
    intro i h
    have e : pflat (f :: t) = .int .u64 f.1 :: .int .u64 f.2 :: pflat t := rfl
    rw [e]
    cases i with
    | zero => exact ⟨rfl, rfl⟩
    | succ i =>
      obtain ⟨h1, h2⟩ := ih i (by simpa using h)
      rw [show (i + 1) * 2 = i * 2 + 1 + 1 by omega, show i * 2 + 1 + 1 + 1 = (i * 2 + 1) + 1 + 1 by omega]
      simp only [List.getElem?_cons_succ, List.getD_cons_succ]
      exact ⟨h1, h2⟩
theorem fees_row {w : World} {base : Nat} {v : Value} {l : List (Int × Int)} (h : w.ownsRow base 42 2 v l.length (pflat l)) (hw : ∀ f ∈ l, Mon.Word f.1 ∧ Mon.Word f.2) : ∃ a c, v = .slice a l.length c ∧ Mon.FeeRow w a l := by
  rcases h.2 with ⟨rfl, h0⟩ | ⟨g, c, cur, rfl, _, hg, _⟩
  · have : l = [] := List.eq_nil_of_length_eq_zero h0
    subst this
    exact ⟨none, 0, rfl, .inl rfl, hw⟩
  · refine ⟨_, c, rfl, .inr ⟨g, 0, rfl, ?_, fun i hi => ?_⟩, hw⟩
    · rcases Nat.lt_or_ge g w.heap.size with h2 | h2
      · exact h2
      · rw [Array.getElem?_eq_none h2] at hg; cases hg
    · have h1 := h.cells (g := g) rfl (i * 2) _ (pflat_at l i hi).1
      have h2 := h.cells (g := g) rfl (i * 2 + 1) _ (pflat_at l i hi).2
      rw [Go.WideShapes.add_plain] at h1 h2
      exact ⟨h1, by rw [Nat.add_assoc]; exact h2⟩
theorem feesL_word {s : List Stp} (h : ∀ q ∈ s, Word q.b ∧ Word q.r) : ∀ f ∈ feesL s, Mon.Word f.1 ∧ Mon.Word f.2 := by
  intro f hf
  unfold feesL at hf
  obtain ⟨q, hq, rfl⟩ := List.mem_map.1 hf
  exact h q (List.mem_of_mem_drop hq)
theorem amts_length {amt : Int} {s : List Stp} (ha : Word amt) (h : ∀ q ∈ s, Word q.b ∧ Word q.r) (h0 : 0 < s.length) (h1 : (amtsE amt s).1 = 0) : (amtsE amt s).2.length = s.length := by
  have := (Mon.backE_word amt (feesL s) ha (feesL_word h)).2.2.1 h1
  unfold amtsE
  rw [this, feesL_length]
  omega
/-- money.Back, with what it leaves as a row of its own. -/
theorem back_own (x : Int) (a : Option Addr) (cap : Nat) (fs : List (Int × Int)) (w : World) (hx : Mon.Word x) (hN : Mon.FeeRow w a fs) (hlen : fs.length ≤ 200) :
    Calls Try.prog 87 #[.int .u64 x, .slice a fs.length cap] w fun e w' => ∃ v, e = .returned (.tuple #[v, .int .i64 (Mon.backE x fs).1]) ∧ w'.ownsRow w.heap.size 40 1 v (Mon.backE x fs).2.length (Mon.nums (Mon.backE x fs).2) ∧ Below w.heap.size w w' := by
  rcases hN.1 with rfl | ⟨b, off, rfl, hb, hc⟩
  · exact Mon.back_none x a cap w hx
  · by_cases h0 : fs.length = 0
    · have : fs = [] := List.eq_nil_of_length_eq_zero h0
      subst this
      exact Mon.back_none x _ cap w hx
    · exact Mon.back_core x b off cap fs.length fs w hx (Lib.hid hN) hb (Lib.hid rfl) hlen (by omega) (Lib.hid hc)
theorem nums_slice {w : World} {base : Nat} {v : Value} {l : List Int} (h : w.ownsRow base 40 1 v l.length (Mon.nums l)) : ∃ a c, v = .slice a l.length c := by
  rcases h.2 with ⟨rfl, h0⟩ | ⟨g, c, cur, rfl, _⟩
  · exact ⟨none, 0, by rw [h0]⟩
  · exact ⟨_, c, rfl⟩
theorem nums_at (l : List Int) (k : Nat) (a : Int) (h : k < l.length) (ha : l.getD k 0 = a) : (Mon.nums l)[k]? = some (.int .u64 a) := by
  unfold Mon.nums
  rw [List.getElem?_map, List.getElem?_eq_getElem h]
  rw [List.getD_eq_getElem?_getD, List.getElem?_eq_getElem h] at ha
  simp at ha
  rw [← ha]; rfl
theorem own_some {w : World} {base n size c : Nat} {e : TypeId} {a : Option Addr} {xs : List Value} (h : w.ownsRow base e size (.slice a n c) n xs) (h0 : 0 < n) : ∃ g, a = some ⟨g, 0, none⟩ := by
  rcases h.2 with ⟨_, h1⟩ | ⟨g, c', cur, h1, _⟩
  · omega
  · injection h1 with h1 _ _; exact ⟨g, h1⟩
theorem load89 (w : World) (g t : Nat) (a b d : Option Addr) (l m n c e f : Nat) (h : Blk w g t [.slice a l c, .slice b m e, .slice d n f]) : (loadVar 89 ⟨g, 0, none⟩).run Try.prog w = .ok (.agg #[.slice a l c, .slice b m e, .slice d n f]) w := by
  have k1 := h.cell 0
  have k2 := h.cell 1
  have k3 := h.cell 2
  simp only [List.getElem?_cons_zero, List.getElem?_cons_succ] at k1 k2 k3
  go_simp
theorem results89 {fn : Func} {p u : Tmp} (h : fn.results = #[.cell p 89, .tmp u]) (tmps : Array Value) (w : World) (g t : Nat) (a b d : Option Addr) (l m n c e f : Nat) (v : Value) (hp : tmps.getD p undef = .pointer (some ⟨g, 0, none⟩)) (hu : tmps.getD u undef = v) (hP : Blk w g t [.slice a l c, .slice b m e, .slice d n f]) :
    (results fn tmps).run Try.prog w = .ok (.tuple #[.agg #[.slice a l c, .slice b m e, .slice d n f], v]) w := by
  rw [results_cell_tmp h, hp, hu]
  simp [asAddr, Result.andThen, load89 w g t a b d l m n c e f hP]
end Go.Proofs.Ytnnimjaigciedaa
