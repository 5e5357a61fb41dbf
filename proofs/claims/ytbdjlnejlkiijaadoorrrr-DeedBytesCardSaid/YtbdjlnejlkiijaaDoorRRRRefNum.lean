/-
  Numbers of the document's sum: a number's last bytes, the sum's bytes off the words, the padding, what the texts in base sixteen say.
-/
import Derived.Test.YtbdjlnejlkiijaaDoorRRRBlockLib
namespace Go.Proofs.YtbdjlnejlkiijaaDoorRRR
open Go.RowKit
set_option linter.unusedVariables false

/-- A number's last m bytes, the greatest first. -/
def low : Nat → Nat → List Nat
  | 0, _ => []
  | m + 1, X => (X / 256 ^ m % 256) :: low m X
theorem low_length (X : Nat) : ∀ m, (low m X).length = m
  | 0 => rfl
  | m + 1 => by simp [low, low_length X m]
theorem low_eight (X : Nat) (h : X < 18446744073709551616) : low 8 X = four (X / 4294967296) ++ four (X % 4294967296) := by
  simp only [low, four, List.cons_append, List.nil_append]
  simp only [show (256 : Nat) ^ 7 = 72057594037927936 from rfl, show (256 : Nat) ^ 6 = 281474976710656 from rfl, show (256 : Nat) ^ 5 = 1099511627776 from rfl, show (256 : Nat) ^ 4 = 4294967296 from rfl, show (256 : Nat) ^ 3 = 16777216 from rfl, show (256 : Nat) ^ 2 = 65536 from rfl, show (256 : Nat) ^ 1 = 256 from rfl, show (256 : Nat) ^ 0 = 1 from rfl]
  simp only [List.cons.injEq, and_true]
  exact ⟨by omega, by omega, by omega, trivial, by omega, by omega, by omega, by omega⟩
theorem w8_set (l : List Nat) (i x : Nat) : (w8 l).set i (.int .u8 (x : Int)) = w8 (l.set i x) := by simp [w8, List.map_set]
theorem set_low (m X : Nat) (h : m < 8) : (List.replicate (8 - m) 0 ++ low m X).set (7 - m) (X / 256 ^ m % 256) = List.replicate (8 - (m + 1)) 0 ++ low (m + 1) X := by
  have e : List.replicate (8 - m) 0 = List.replicate (7 - m) 0 ++ [0] := by rw [show 8 - m = (7 - m) + 1 by omega, List.replicate_succ']
  rw [e, List.append_assoc, List.set_append_right _ _ (by simp), show 8 - (m + 1) = 7 - m by omega]
  simp [low]

/-- What the padding comes to. -/
theorem pad_eq (l : List Nat) (h : l.length < 2305843009213693952) : pad l = l ++ 128 :: List.replicate (63 - (l.length + 8) % 64) 0 ++ low 8 (l.length * 8) := by
  rw [low_eight _ (by omega)]
  unfold pad tail
  rw [Nat.mul_comm 8 l.length]
  simp
theorem pad_lt (l : List Nat) (h : ∀ x ∈ l, x < 256) (hl : l.length < 2305843009213693952) : ∀ x ∈ pad l, x < 256 := by
  intro x hx
  unfold pad tail at hx
  simp only [List.mem_append, List.mem_cons, List.mem_replicate] at hx
  rcases hx with ((hx | rfl | ⟨_, rfl⟩) | hx) | hx
  · exact h x hx
  · omega
  · omega
  · exact four_lt _ (by omega) x hx
  · exact four_lt _ (by omega) x hx
theorem pad_block (l : List Nat) (j : Nat) (h : 64 * j < (pad l).length) : (((pad l).drop (64 * j)).take 64).length = 64 := by
  have := pad_whole l
  rw [List.length_take, List.length_drop]
  omega
theorem pad_block_get (l : List Nat) (j i : Nat) (hi : i < 64) : (((pad l).drop (64 * j)).take 64).getD i 0 = (pad l).getD (64 * j + i) 0 := by
  simp only [List.getD, List.getElem?_take, List.getElem?_drop, hi, if_true]

/-- The sum's bytes, off the words. -/
theorem flat_get : ∀ (ws : List Nat) (i : Nat), (∀ x ∈ ws, x < 4294967296) → i < 4 * ws.length → (ws.flatMap four).getD i 0 = ws.getD (i / 4) 0 / 256 ^ (3 - i % 4) % 256
  | [], i, _, h => by simp at h
  | a :: r, i, hl, h => by
    have ha := hl a (by simp)
    rcases Nat.lt_or_ge i 4 with hi | hi
    · have h4 : i / 4 = 0 := by omega
      rw [h4]
      have hr : i = 0 ∨ i = 1 ∨ i = 2 ∨ i = 3 := by omega
      rcases hr with rfl | rfl | rfl | rfl
      · simp [four]; omega
      · simp [four]
      · simp [four]
      · simp [four]
    · have ih := flat_get r (i - 4) (fun x hx => hl x (by simp [hx])) (by simp at h; omega)
      have e1 : (List.flatMap four (a :: r)).getD i 0 = (r.flatMap four).getD (i - 4) 0 := by
        rw [List.flatMap_cons]
        simp only [List.getD]
        rw [List.getElem?_append_right (by simp [four]; omega)]
        rfl
      rw [e1, ih, show (i - 4) % 4 = i % 4 by omega]
      have e2 : i / 4 = (i - 4) / 4 + 1 := by omega
      rw [e2]
      rfl
theorem set_drop (D : List Nat) (m x : Nat) (hD : D.length = 32) (hm : m < 32) (hx : D.getD (31 - m) 0 = x) : (List.replicate (32 - m) 0 ++ D.drop (32 - m)).set (31 - m) x = List.replicate (32 - (m + 1)) 0 ++ D.drop (32 - (m + 1)) := by
  have e : List.replicate (32 - m) 0 = List.replicate (31 - m) 0 ++ [0] := by rw [show 32 - m = (31 - m) + 1 by omega, List.replicate_succ']
  rw [e, List.append_assoc, List.set_append_right _ _ (by simp), show 32 - (m + 1) = 31 - m by omega, List.drop_eq_getElem_cons (i := 31 - m) (by omega), show 31 - m + 1 = 32 - m by omega]
  have hx2 : D[31 - m]'(by omega) = x := by rw [← hx]; simp [List.getD, show 31 - m < D.length by omega]
  simp [hx2]

/-- What is left of the words while their bytes are taken off. -/
def left (ws : List Nat) (m j : Nat) : Nat := ws.getD j 0 / 256 ^ (min 4 (m - 4 * (7 - j)))
theorem left_zero (ws : List Nat) (j : Nat) : left ws 0 j = ws.getD j 0 := by simp [left]
theorem left_same (ws : List Nat) (m : Nat) (hm : m < 32) : left ws (m + 1) ((31 - m) / 4) = left ws m ((31 - m) / 4) / 256 := by
  unfold left
  have e : min 4 (m + 1 - 4 * (7 - (31 - m) / 4)) = min 4 (m - 4 * (7 - (31 - m) / 4)) + 1 := by omega
  rw [e, Nat.pow_succ, Nat.div_div_eq_div_mul]
theorem left_other (ws : List Nat) (m j : Nat) (hm : m < 32) (hj : j < 8) (hne : j ≠ (31 - m) / 4) : left ws (m + 1) j = left ws m j := by
  unfold left
  have e : min 4 (m + 1 - 4 * (7 - j)) = min 4 (m - 4 * (7 - j)) := by omega
  rw [e]
theorem left_byte (ws : List Nat) (m : Nat) (hw : ws.length = 8) (hl : ∀ x ∈ ws, x < 4294967296) (hm : m < 32) : (ws.flatMap four).getD (31 - m) 0 = left ws m ((31 - m) / 4) % 256 := by
  rw [flat_get ws (31 - m) hl (by omega)]
  unfold left
  have e : min 4 (m - 4 * (7 - (31 - m) / 4)) = 3 - (31 - m) % 4 := by omega
  rw [e]
theorem left_lt (ws : List Nat) (m j : Nat) (hl : ∀ x ∈ ws, x < 4294967296) : left ws m j < 4294967296 := Nat.lt_of_le_of_lt (Nat.div_le_self _ _) (getD_lt (by omega) hl j)

/-- A row of eight words, by a function. -/
def HRow (w : World) (g : Nat) (f : Nat → Nat) : Prop := ∀ j, j < 8 → w.cell? ⟨g, j, none⟩ = some (.int .u64 ((f j : Nat) : Int)) ∧ w.frozen? ⟨g, j, none⟩ = false
theorem HRow.set {w : World} {g : Nat} {ws : List Nat} {m : Nat} (h : HRow w g (left ws m)) (hm : m < 32) (y : Nat) (hy : y = left ws m ((31 - m) / 4) / 256) : HRow (w.setCell ⟨g, (31 - m) / 4, none⟩ (.int .u64 (y : Int))) g (left ws (m + 1)) := by
  intro q hq
  obtain ⟨h1, h2⟩ := h q hq
  rcases Nat.decEq ((31 - m) / 4) q with hne | heq
  · rw [World.cell?_setCell_other _ _ _ _ (by intro h; injection h; omega), World.frozen?_setCell]
    exact ⟨by rw [h1, left_other ws m q hm hq (by omega)], h2⟩
  · subst heq
    rw [World.cell?_setCell_same _ _ _ h1, World.frozen?_setCell, left_same ws m hm, hy]
    exact ⟨rfl, h2⟩
theorem HRow.far {w : World} {g : Nat} {f : Nat → Nat} (h : HRow w g f) {p : Addr} (hp : p.block ≠ g) (v : Value) : HRow (w.setCell p v) g f := fun j hj => by
  rw [World.cell?_setCell_far _ _ _ _ hp, World.frozen?_setCell]
  exact h j hj
theorem HRow.alloc {w : World} {g : Nat} {f : Nat → Nat} (h : HRow w g f) (o : Obj) (hg : g < w.heap.size) : HRow (w.alloc o) g f := fun j hj => by
  have hb := (Below.refl w.heap.size w).alloc (Nat.le_refl _) o
  rw [hb.cell (p := ⟨g, j, none⟩) hg, hb.frozen (p := ⟨g, j, none⟩) hg]
  exact h j hj

/-- The texts of the constants. -/
structure Texts (f r : ByteArray) : Prop where
  fs : f.size = 8 * 8
  fl : ∀ c ∈ letters f, okLetter c = true
  fk : ∀ i, i < 8 → hexAt (letters f) i = firsts.getD i 0
  rs : r.size = 8 * 64
  rl : ∀ c ∈ letters r, okLetter c = true
  rk : ∀ i, i < 64 → hexAt (letters r) i = kws.getD i 0
theorem firsts_set (k : Nat) (h : k < 8) : (firsts.take k ++ List.replicate (8 - k) 0).set k (firsts.getD k 0) = firsts.take (k + 1) ++ List.replicate (8 - (k + 1)) 0 := by
  have hr : k = 0 ∨ k = 1 ∨ k = 2 ∨ k = 3 ∨ k = 4 ∨ k = 5 ∨ k = 6 ∨ k = 7 := by omega
  rcases hr with rfl | rfl | rfl | rfl | rfl | rfl | rfl | rfl <;> rfl
end Go.Proofs.YtbdjlnejlkiijaaDoorRRR
