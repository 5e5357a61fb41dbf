/-
  The document's lamp as numbers: secrets, covers, bits, leaves, signatures; what a signature leads to is its key's leaf; the leaf of zero's seed isn't zero (worked out).
-/
import Derived.Test.YtkonokjhpddbfaaDoorFast
import Derived.Test.YtkonokjhpddbfaaDoorForOf
namespace Go.Proofs.YtkonokjhpddbfaaDoor
set_option linter.unusedVariables false

/-- The covers of the key 0 of zero's seed, place by place, for 0 and for 1. -/
def zcov : List (List Nat) := [[139, 155, 28, 71, 161, 179, 248, 122, 134, 33, 130, 227, 18, 244, 98, 159], [185, 187, 190, 153, 112, 35, 61, 185, 32, 180, 157, 202, 120, 82, 152, 45], [176, 130, 181, 91, 135, 223, 63, 66, 97, 61, 50, 46, 13, 134, 96, 224], [101, 67, 80, 224, 76, 139, 213, 170, 203, 168, 198, 133, 255, 201, 246, 22], [189, 212, 6, 29, 68, 199, 176, 57, 222, 86, 19, 150, 89, 54, 209, 237], [47, 50, 226, 216, 237, 251, 34, 188, 1, 148, 189, 155, 13, 160, 95, 91], [19, 66, 168, 164, 90, 89, 253, 101, 238, 215, 38, 234, 59, 24, 219, 9], [84, 38, 132, 168, 137, 155, 133, 86, 129, 25, 248, 204, 177, 119, 8, 62], [22, 74, 11, 242, 135, 136, 93, 17, 230, 179, 245, 18, 166, 106, 17, 31], [238, 150, 2, 124, 70, 30, 90, 152, 255, 187, 174, 119, 35, 133, 124, 250], [243, 131, 238, 214, 112, 171, 219, 77, 252, 13, 84, 152, 176, 50, 226, 1], [5, 196, 62, 5, 29, 232, 177, 130, 187, 172, 41, 27, 208, 77, 212, 123], [12, 80, 58, 112, 135, 35, 137, 68, 8, 197, 98, 150, 122, 73, 36, 229], [190, 238, 10, 181, 230, 195, 70, 156, 67, 244, 187, 200, 17, 153, 53, 169], [89, 15, 224, 49, 135, 130, 25, 86, 193, 130, 12, 28, 249, 89, 41, 129], [167, 103, 206, 2, 180, 66, 116, 191, 39, 129, 220, 51, 233, 221, 105, 28], [41, 88, 163, 66, 104, 244, 114, 157, 207, 199, 32, 49, 196, 193, 67, 32], [33, 191, 230, 78, 242, 151, 15, 95, 193, 83, 117, 215, 155, 195, 162, 180], [172, 170, 193, 190, 35, 198, 39, 25, 196, 196, 18, 241, 233, 53, 235, 249], [206, 148, 188, 99, 238, 67, 234, 224, 19, 2, 145, 44, 254, 134, 153, 192], [241, 93, 194, 2, 9, 173, 202, 149, 11, 35, 86, 20, 5, 219, 88, 47], [157, 74, 189, 210, 168, 224, 160, 121, 22, 181, 218, 108, 141, 203, 75, 31], [103, 180, 31, 190, 44, 197, 175, 209, 94, 222, 95, 39, 224, 30, 35, 238], [155, 136, 19, 123, 204, 16, 23, 44, 209, 180, 161, 65, 186, 123, 132, 159], [173, 149, 116, 231, 48, 87, 113, 176, 228, 175, 170, 200, 87, 175, 105, 18], [146, 74, 123, 240, 52, 181, 164, 247, 19, 73, 12, 218, 80, 81, 53, 233], [68, 28, 111, 209, 74, 108, 114, 28, 189, 200, 137, 171, 205, 142, 44, 229], [175, 113, 138, 103, 105, 151, 234, 53, 102, 125, 99, 86, 223, 117, 50, 57], [112, 25, 137, 18, 58, 36, 161, 101, 154, 38, 72, 191, 137, 196, 208, 139], [71, 8, 212, 154, 71, 228, 50, 127, 227, 62, 136, 162, 178, 102, 7, 60], [181, 140, 18, 223, 77, 131, 134, 182, 246, 119, 237, 56, 251, 202, 182, 110], [17, 219, 220, 117, 91, 102, 13, 240, 203, 81, 0, 101, 109, 203, 133, 166], [22, 33, 166, 79, 52, 81, 133, 73, 29, 188, 41, 185, 61, 206, 254, 183], [236, 236, 138, 132, 250, 163, 231, 212, 54, 179, 235, 22, 144, 26, 194, 225], [195, 228, 209, 54, 137, 21, 37, 157, 190, 68, 23, 147, 193, 130, 197, 238], [148, 2, 124, 39, 15, 53, 107, 192, 25, 184, 176, 178, 56, 108, 57, 39], [193, 12, 41, 112, 107, 10, 44, 33, 90, 40, 41, 127, 113, 163, 26, 31], [209, 1, 72, 176, 155, 166, 39, 124, 242, 188, 90, 128, 50, 247, 77, 231], [34, 118, 120, 11, 72, 65, 109, 81, 183, 44, 218, 62, 247, 14, 166, 236], [186, 213, 148, 72, 81, 122, 83, 24, 112, 214, 3, 185, 137, 252, 8, 25], [118, 243, 27, 187, 47, 116, 49, 38, 159, 240, 88, 134, 85, 164, 28, 189], [68, 3, 82, 212, 212, 14, 175, 229, 108, 211, 170, 78, 147, 133, 67, 124], [129, 181, 61, 59, 34, 128, 126, 32, 140, 112, 30, 129, 190, 186, 81, 244], [72, 250, 13, 75, 121, 169, 100, 253, 76, 207, 86, 216, 22, 196, 150, 127], [187, 41, 226, 219, 15, 254, 93, 102, 79, 75, 18, 198, 20, 43, 158, 203], [23, 133, 82, 146, 117, 182, 39, 82, 12, 238, 154, 5, 29, 92, 27, 239], [204, 112, 196, 255, 64, 235, 174, 32, 204, 154, 240, 108, 22, 224, 69, 28], [241, 153, 119, 65, 169, 135, 96, 87, 160, 128, 225, 173, 141, 105, 17, 53], [71, 174, 246, 203, 115, 100, 87, 75, 114, 23, 205, 82, 51, 40, 217, 91], [24, 229, 164, 140, 232, 112, 132, 243, 2, 136, 84, 110, 168, 114, 111, 115], [79, 51, 97, 93, 80, 61, 53, 143, 25, 39, 143, 0, 178, 207, 224, 150], [248, 254, 202, 44, 9, 194, 147, 44, 255, 48, 22, 156, 14, 70, 127, 102], [15, 14, 41, 116, 96, 124, 54, 237, 143, 193, 59, 44, 239, 70, 81, 114], [106, 90, 64, 139, 138, 124, 78, 142, 13, 239, 137, 85, 46, 88, 135, 142], [143, 119, 93, 34, 154, 44, 189, 15, 150, 243, 139, 40, 214, 41, 65, 75], [192, 7, 248, 26, 24, 176, 67, 123, 63, 15, 203, 85, 142, 71, 211, 193], [25, 248, 102, 200, 125, 168, 243, 115, 65, 247, 207, 186, 3, 231, 125, 47], [219, 198, 46, 102, 244, 214, 202, 231, 98, 89, 99, 135, 79, 34, 108, 186], [88, 37, 76, 135, 232, 74, 248, 224, 168, 37, 125, 205, 198, 138, 31, 75], [60, 134, 177, 9, 133, 80, 98, 174, 100, 141, 135, 118, 238, 178, 213, 109], [241, 67, 13, 52, 194, 212, 211, 167, 113, 74, 254, 243, 36, 104, 136, 193], [59, 115, 155, 54, 123, 44, 62, 61, 89, 57, 226, 113, 145, 54, 241, 81], [224, 124, 17, 37, 85, 30, 217, 224, 38, 126, 161, 208, 102, 13, 185, 252], [145, 133, 34, 69, 134, 100, 100, 223, 239, 88, 206, 5, 7, 11, 194, 69]]
set_option maxRecDepth 100000 in
theorem zcov_eq : (List.range 32).flatMap (fun a => [(qsha 1 (text 5 [(qsha 1 (text 1 [List.replicate 32 0, four 0, [a, 0]])).take 16])).take 16, (qsha 1 (text 5 [(qsha 1 (text 1 [List.replicate 32 0, four 0, [a, 1]])).take 16])).take 16]) = zcov := by decide +kernel
set_option maxRecDepth 100000 in
theorem zleaf_eq : qsha 17 (text 2 [zcov.flatten]) = [44, 2, 183, 236, 69, 109, 109, 1, 45, 177, 90, 166, 239, 29, 205, 79, 81, 210, 141, 214, 64, 98, 25, 220, 119, 216, 212, 30, 107, 154, 9, 73] := by decide +kernel

/-- A key's secret, what a piece is known by, a digest's bit. -/
def secN (seed : List Nat) (n a v : Nat) : List Nat := (sha (text 1 [seed, four n, [a, v]])).take 16
def covN (p : List Nat) : List Nat := (sha (text 5 [p])).take 16
def bitN (d : List Nat) (a : Nat) : Nat := d.getD (a / 8) 0 / 2 ^ (7 - a % 8) % 2
/-- Row by row. -/
def rows (f : Nat → List Nat) (k : Nat) : List Nat := (List.range k).flatMap f
theorem rows_zero (f : Nat → List Nat) : rows f 0 = [] := rfl
theorem rows_succ (f : Nat → List Nat) (k : Nat) : rows f (k + 1) = rows f k ++ f k := by simp [rows, List.range_succ]
theorem rows_length {f : Nat → List Nat} {m : Nat} (h : ∀ a, (f a).length = m) : ∀ k, (rows f k).length = m * k
  | 0 => rfl
  | k + 1 => by rw [rows_succ, List.length_append, rows_length h k, h k, Nat.mul_succ]
theorem rows_congr {f g : Nat → List Nat} : ∀ k, (∀ a, a < k → f a = g a) → rows f k = rows g k
  | 0, _ => rfl
  | k + 1, h => by rw [rows_succ, rows_succ, rows_congr k (fun a ha => h a (by omega)), h k (by omega)]
theorem rows_piece {f : Nat → List Nat} {m : Nat} (h : ∀ a, (f a).length = m) : ∀ (k a : Nat), a < k → ((rows f k).drop (m * a)).take m = f a
  | 0, a, ha => by omega
  | k + 1, a, ha => by
    have hl := rows_length h k
    rw [rows_succ]
    rcases Nat.lt_or_ge a k with h1 | h1
    · have h2 : m * a + m ≤ m * k := by rw [← Nat.mul_succ]; exact Nat.mul_le_mul_left m h1
      rw [List.drop_append_of_le_length (by omega), List.take_append_of_le_length (by rw [List.length_drop]; omega)]
      exact rows_piece h k a h1
    · obtain rfl : a = k := by omega
      rw [← hl, List.drop_left, List.take_of_length_le (by rw [h a]; omega)]
theorem rows_lt {f : Nat → List Nat} (h : ∀ a, ∀ x ∈ f a, x < 256) (k : Nat) : ∀ x ∈ rows f k, x < 256 := by
  intro x hx
  simp only [rows, List.mem_flatMap] at hx
  obtain ⟨a, _, hx⟩ := hx
  exact h a x hx

theorem flat4_lt : ∀ (ws : List Nat), (∀ x ∈ ws, x < 4294967296) → ∀ x ∈ ws.flatMap four, x < 256 := by
  intro ws h x hx
  obtain ⟨y, hy, hx⟩ := List.mem_flatMap.1 hx
  exact four_lt y (h y hy) x hx
theorem sha_lt (l : List Nat) : ∀ x ∈ sha l, x < 256 := flat4_lt _ (wordsAt_lt _ _)
theorem secN_length (seed : List Nat) (n a v : Nat) : (secN seed n a v).length = 16 := by simp [secN, sha_length]
theorem covN_length (p : List Nat) : (covN p).length = 16 := by simp [covN, sha_length]
theorem secN_lt (seed : List Nat) (n a v : Nat) : ∀ x ∈ secN seed n a v, x < 256 := fun x hx => sha_lt _ x (List.mem_of_mem_take hx)
theorem covN_lt (p : List Nat) : ∀ x ∈ covN p, x < 256 := fun x hx => sha_lt _ x (List.mem_of_mem_take hx)
theorem bitN_two (d : List Nat) (a : Nat) : bitN d a = 0 ∨ bitN d a = 1 := by unfold bitN; omega

/-- A signature: of each place the secret for the digest's bit, and behind them what the other ones are known by. -/
def opnN (seed : List Nat) (n : Nat) (d : List Nat) (a : Nat) : List Nat := secN seed n a (bitN d a)
def othN (seed : List Nat) (n : Nat) (d : List Nat) (a : Nat) : List Nat := covN (secN seed n a (1 - bitN d a))
def signN (seed : List Nat) (n : Nat) (d : List Nat) : List Nat := rows (opnN seed n d) 32 ++ rows (othN seed n d) 32
/-- A signature's piece: of Open from 0 on, of Other from 32 on. -/
def pcs (S : List Nat) (a : Nat) : List Nat := (S.drop (16 * a)).take 16
def prN (c o : List Nat) (b : Nat) : List Nat := if b = 0 then c ++ o else o ++ c
def fromT (S d : List Nat) : List Nat := rows (fun a => prN (covN (pcs S a)) (pcs S (32 + a)) (bitN d a)) 32
def fromN (S d : List Nat) : List Nat := sha (text 2 [fromT S d])
def leafT (seed : List Nat) (n : Nat) : List Nat := rows (fun a => covN (secN seed n a 0) ++ covN (secN seed n a 1)) 32
def leafN (seed : List Nat) (n : Nat) : List Nat := sha (text 2 [leafT seed n])

theorem opnN_length (seed : List Nat) (n : Nat) (d : List Nat) (a : Nat) : (opnN seed n d a).length = 16 := secN_length _ _ _ _
theorem othN_length (seed : List Nat) (n : Nat) (d : List Nat) (a : Nat) : (othN seed n d a).length = 16 := covN_length _
theorem signN_length (seed : List Nat) (n : Nat) (d : List Nat) : (signN seed n d).length = 1024 := by
  unfold signN
  rw [List.length_append, rows_length (opnN_length seed n d), rows_length (othN_length seed n d)]
theorem signN_lt (seed : List Nat) (n : Nat) (d : List Nat) : ∀ x ∈ signN seed n d, x < 256 := by
  intro x hx
  rcases List.mem_append.1 hx with hx | hx
  · exact rows_lt (fun a => secN_lt _ _ _ _) 32 x hx
  · exact rows_lt (fun a => covN_lt _) 32 x hx
theorem pcs_length (S : List Nat) (a : Nat) (h : 16 * a + 16 ≤ S.length) : (pcs S a).length = 16 := by simp [pcs]; omega
theorem pcs_lt (S : List Nat) (a : Nat) (h : ∀ x ∈ S, x < 256) : ∀ x ∈ pcs S a, x < 256 := fun x hx => h x (List.mem_of_mem_drop (List.mem_of_mem_take hx))
theorem pcs_open (seed : List Nat) (n : Nat) (d : List Nat) (a : Nat) (ha : a < 32) : pcs (signN seed n d) a = opnN seed n d a := by
  have hl : (rows (opnN seed n d) 32).length = 512 := rows_length (opnN_length seed n d) 32
  unfold pcs signN
  rw [List.drop_append_of_le_length (by omega), List.take_append_of_le_length (by rw [List.length_drop]; omega)]
  exact rows_piece (opnN_length seed n d) 32 a ha
theorem pcs_other (seed : List Nat) (n : Nat) (d : List Nat) (a : Nat) (ha : a < 32) : pcs (signN seed n d) (32 + a) = othN seed n d a := by
  have hl : (rows (opnN seed n d) 32).length = 512 := rows_length (opnN_length seed n d) 32
  unfold pcs signN
  rw [show 16 * (32 + a) = (rows (opnN seed n d) 32).length + 16 * a by omega, List.drop_append, List.drop_of_length_le (by omega), List.nil_append, show (rows (opnN seed n d) 32).length + 16 * a - (rows (opnN seed n d) 32).length = 16 * a by omega]
  exact rows_piece (othN_length seed n d) 32 a ha
theorem prN_length (c o : List Nat) (b : Nat) (hc : c.length = 16) (ho : o.length = 16) : (prN c o b).length = 32 := by unfold prN; split <;> simp [hc, ho]
theorem fromT_length (S d : List Nat) (h : S.length = 1024) : (fromT S d).length = 1024 := by
  have hl : ∀ k, k ≤ 32 → (rows (fun a => prN (covN (pcs S a)) (pcs S (32 + a)) (bitN d a)) k).length = 32 * k := by
    intro k
    induction k with
    | zero => intro _; rfl
    | succ k ih =>
      intro hk
      rw [rows_succ, List.length_append, ih (by omega), prN_length _ _ _ (covN_length _) (pcs_length _ _ (by omega)), Nat.mul_succ]
  exact hl 32 (by omega)
theorem leafT_length (seed : List Nat) (n : Nat) : (leafT seed n).length = 1024 := rows_length (m := 32) (fun a => by simp [covN_length]) 32
theorem leafT_lt (seed : List Nat) (n : Nat) : ∀ x ∈ leafT seed n, x < 256 := rows_lt (fun a x hx => by
  rcases List.mem_append.1 hx with hx | hx
  · exact covN_lt _ x hx
  · exact covN_lt _ x hx) 32
theorem fromT_lt (S d : List Nat) (h : ∀ x ∈ S, x < 256) : ∀ x ∈ fromT S d, x < 256 := rows_lt (fun a x hx => by
  unfold prN at hx
  split at hx
  · rcases List.mem_append.1 hx with hx | hx
    · exact covN_lt _ x hx
    · exact pcs_lt S _ h x hx
  · rcases List.mem_append.1 hx with hx | hx
    · exact pcs_lt S _ h x hx
    · exact covN_lt _ x hx) 32
theorem leafN_length (seed : List Nat) (n : Nat) : (leafN seed n).length = 32 := sha_length _
theorem fromN_length (S d : List Nat) : (fromN S d).length = 32 := sha_length _
theorem fromT_bits (S d e : List Nat) (h : ∀ a, a < 32 → bitN d a = bitN e a) : fromT S d = fromT S e := rows_congr 32 fun a ha => by rw [h a ha]

/-- What a signature leads to is its key's leaf. -/
theorem from_sign (seed : List Nat) (n : Nat) (d : List Nat) : fromN (signN seed n d) d = leafN seed n := by
  unfold fromN leafN
  have e : fromT (signN seed n d) d = leafT seed n := rows_congr 32 fun a ha => by
    rw [pcs_open _ _ _ _ ha, pcs_other _ _ _ _ ha]
    unfold opnN othN prN
    rcases bitN_two d a with h | h <;> rw [h] <;> simp
  rw [e]

theorem secN_q (seed : List Nat) (n a v : Nat) (hs : seed.length = 32) : secN seed n a v = (qsha 1 (text 1 [seed, four n, [a, v]])).take 16 := by
  unfold secN
  rw [qsha_eq 1 _ (by simp [text, laidParts, four, hs])]
theorem covN_q (p : List Nat) (hp : p.length = 16) : covN p = (qsha 1 (text 5 [p])).take 16 := by
  unfold covN
  rw [qsha_eq 1 _ (by simp [text, laidParts, four, hp])]
theorem rows_flatten (f : Nat → List (List Nat)) : ∀ k, ((List.range k).flatMap f).flatten = rows (fun a => (f a).flatten) k
  | 0 => rfl
  | k + 1 => by rw [List.range_succ, List.flatMap_append, List.flatten_append, rows_flatten f k, rows_succ]; simp
theorem leafT_zero : leafT (List.replicate 32 0) 0 = zcov.flatten := by
  rw [← zcov_eq, rows_flatten]
  refine rows_congr 32 fun a _ => ?_
  rw [covN_q _ (secN_length _ _ _ _), covN_q _ (secN_length _ _ _ _), secN_q _ _ _ _ (by simp), secN_q _ _ _ _ (by simp)]
  simp
set_option maxRecDepth 100000 in
theorem leaf_zero : (leafN (List.replicate 32 0) 0).getD 0 0 = 44 := by
  unfold leafN
  have hl := leafT_length (List.replicate 32 0) 0
  rw [← qsha_eq 17 _ (by simp only [text, laidParts, List.flatMap_cons, List.flatMap_nil, List.length_append, hl, four, List.length_cons, List.length_nil]), leafT_zero, zleaf_eq]
  rfl
end Go.Proofs.YtkonokjhpddbfaaDoor
