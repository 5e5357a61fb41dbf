/-
  The standard's numbers (SHA-256), as functions on plain lists of numbers: words turned, a block's plan, the rounds, the sum of bytes; what is below two to the thirty-second stays below it.
-/
import Derived.Laws.BitsAllLaws
namespace Go.Proofs.YtbdjlnejlkiijaaDoorRRR
set_option linter.unusedVariables false

/-- A word turned to the right. -/
def rotr (n x : Nat) : Nat := x / 2 ^ n + x % 2 ^ n * 2 ^ (32 - n)
def sgA (x : Nat) : Nat := rotr 7 x ^^^ rotr 18 x ^^^ x / 8
def sgB (x : Nat) : Nat := rotr 17 x ^^^ rotr 19 x ^^^ x / 1024
def bgE (x : Nat) : Nat := rotr 6 x ^^^ rotr 11 x ^^^ rotr 25 x
def bgA (x : Nat) : Nat := rotr 2 x ^^^ rotr 13 x ^^^ rotr 22 x
def chs (e f g : Nat) : Nat := (e &&& f) ^^^ ((4294967295 - e) &&& g)
def maj (a b c : Nat) : Nat := (a &&& b) ^^^ (a &&& c) ^^^ (b &&& c)

theorem rotr_lt (n x : Nat) (hn : n ≤ 32) (hx : x < 4294967296) : rotr n x < 4294967296 := by
  unfold rotr
  have hp : 0 < 2 ^ n := Nat.pow_pos (by omega)
  have e : 2 ^ n * 2 ^ (32 - n) = 4294967296 := by rw [← Nat.pow_add, show n + (32 - n) = 32 by omega]
  have h1 : x / 2 ^ n < 2 ^ (32 - n) := by
    rw [Nat.div_lt_iff_lt_mul hp, Nat.mul_comm, e]; exact hx
  have h2 : x % 2 ^ n + 1 ≤ 2 ^ n := Nat.mod_lt _ hp
  have h3 := Nat.mul_le_mul_right (2 ^ (32 - n)) h2
  rw [e, Nat.add_mul] at h3
  omega

theorem rotr_or (n x : Nat) (hn : n ≤ 32) (hx : x < 4294967296) : (x * 2 ^ (32 - n)) % 4294967296 ||| x / 2 ^ n = rotr n x := by
  have hp : 0 < 2 ^ n := Nat.pow_pos (by omega)
  have e : 2 ^ n * 2 ^ (32 - n) = 4294967296 := by rw [← Nat.pow_add, show n + (32 - n) = 32 by omega]
  have h1 : x / 2 ^ n < 2 ^ (32 - n) := by
    rw [Nat.div_lt_iff_lt_mul hp, Nat.mul_comm, e]; exact hx
  have h2 : (x * 2 ^ (32 - n)) % 4294967296 = x % 2 ^ n * 2 ^ (32 - n) := by rw [← e, Nat.mul_mod_mul_right]
  rw [h2, nat_join (32 - n) _ _ (by simp) h1]
  unfold rotr
  omega

theorem xor_lt {a b : Nat} (ha : a < 4294967296) (hb : b < 4294967296) : a ^^^ b < 4294967296 := Nat.xor_lt_two_pow (n := 32) ha hb
theorem and_lt {a b : Nat} (hb : b < 4294967296) : a &&& b < 4294967296 := Nat.and_lt_two_pow (n := 32) _ hb
theorem or_lt {a b : Nat} (ha : a < 4294967296) (hb : b < 4294967296) : a ||| b < 4294967296 := Nat.or_lt_two_pow (n := 32) ha hb

theorem sgA_lt (x : Nat) (hx : x < 4294967296) : sgA x < 4294967296 := xor_lt (xor_lt (rotr_lt 7 x (by omega) hx) (rotr_lt 18 x (by omega) hx)) (by omega)
theorem sgB_lt (x : Nat) (hx : x < 4294967296) : sgB x < 4294967296 := xor_lt (xor_lt (rotr_lt 17 x (by omega) hx) (rotr_lt 19 x (by omega) hx)) (by omega)
theorem bgE_lt (x : Nat) (hx : x < 4294967296) : bgE x < 4294967296 := xor_lt (xor_lt (rotr_lt 6 x (by omega) hx) (rotr_lt 11 x (by omega) hx)) (rotr_lt 25 x (by omega) hx)
theorem bgA_lt (x : Nat) (hx : x < 4294967296) : bgA x < 4294967296 := xor_lt (xor_lt (rotr_lt 2 x (by omega) hx) (rotr_lt 13 x (by omega) hx)) (rotr_lt 22 x (by omega) hx)
theorem chs_lt (e f g : Nat) (hf : f < 4294967296) (hg : g < 4294967296) : chs e f g < 4294967296 := xor_lt (and_lt hf) (and_lt hg)
theorem maj_lt (a b c : Nat) (hb : b < 4294967296) (hc : c < 4294967296) : maj a b c < 4294967296 := xor_lt (xor_lt (and_lt hb) (and_lt hc)) (and_lt hc)

/-- The eight words. -/
structure St where
  a : Nat
  b : Nat
  c : Nat
  d : Nat
  e : Nat
  f : Nat
  g : Nat
  h : Nat

structure St.Ok (s : St) : Prop where
  a : s.a < 4294967296
  b : s.b < 4294967296
  c : s.c < 4294967296
  d : s.d < 4294967296
  e : s.e < 4294967296
  f : s.f < 4294967296
  g : s.g < 4294967296
  h : s.h < 4294967296

def fst (s : St) (k w : Nat) : Nat := (s.h + bgE s.e + chs s.e s.f s.g + k + w) % 4294967296
/-- One round. -/
def rnd (s : St) (k w : Nat) : St := ⟨(fst s k w + bgA s.a + maj s.a s.b s.c) % 4294967296, s.a, s.b, s.c, (s.d + fst s k w) % 4294967296, s.e, s.f, s.g⟩

theorem rnd_ok (s : St) (k w : Nat) (h : s.Ok) : (rnd s k w).Ok := ⟨Nat.mod_lt _ (by omega), h.a, h.b, h.c, Nat.mod_lt _ (by omega), h.e, h.f, h.g⟩

def runs (K W : List Nat) (s : St) : Nat → St
  | 0 => s
  | n + 1 => rnd (runs K W s n) (K.getD n 0) (W.getD n 0)

theorem runs_ok (K W : List Nat) (s : St) (h : s.Ok) : ∀ n, (runs K W s n).Ok
  | 0 => h
  | n + 1 => rnd_ok _ _ _ (runs_ok K W s h n)

/-- A block's word. -/
def word (m : List Nat) (i : Nat) : Nat := m.getD (4 * i) 0 * 16777216 + m.getD (4 * i + 1) 0 * 65536 + m.getD (4 * i + 2) 0 * 256 + m.getD (4 * i + 3) 0
def more (W : List Nat) (i : Nat) : Nat := (W.getD (i - 16) 0 + sgA (W.getD (i - 15) 0) + W.getD (i - 7) 0 + sgB (W.getD (i - 2) 0)) % 4294967296
def nextW (m W : List Nat) (i : Nat) : Nat := if i < 16 then word m i else more W i
/-- A block's plan: one word for each round. -/
def sched (m : List Nat) : Nat → List Nat
  | 0 => []
  | i + 1 => sched m i ++ [nextW m (sched m i) i]

theorem sched_length (m : List Nat) : ∀ n, (sched m n).length = n
  | 0 => rfl
  | n + 1 => by simp [sched, sched_length m n]

theorem getD_lt {l : List Nat} {B : Nat} (hB : 0 < B) (h : ∀ x ∈ l, x < B) (i : Nat) : l.getD i 0 < B := by
  rcases Nat.lt_or_ge i l.length with hi | hi
  · simp only [List.getD, List.getElem?_eq_getElem hi, Option.getD_some]
    exact h _ (List.getElem_mem hi)
  · simp [List.getD, List.getElem?_eq_none hi, hB]

theorem word_lt (m : List Nat) (hm : ∀ x ∈ m, x < 256) (i : Nat) : word m i < 4294967296 := by
  have h0 := getD_lt (by omega) hm (4 * i)
  have h1 := getD_lt (by omega) hm (4 * i + 1)
  have h2 := getD_lt (by omega) hm (4 * i + 2)
  have h3 := getD_lt (by omega) hm (4 * i + 3)
  unfold word
  omega

theorem sched_lt (m : List Nat) (hm : ∀ x ∈ m, x < 256) : ∀ n, ∀ x ∈ sched m n, x < 4294967296
  | 0 => by simp [sched]
  | n + 1 => by
    intro x hx
    simp only [sched, List.mem_append, List.mem_singleton] at hx
    rcases hx with hx | rfl
    · exact sched_lt m hm n x hx
    · unfold nextW
      split
      · exact word_lt m hm n
      · exact Nat.mod_lt _ (by omega)

/-- The standard's constants. -/
def kws : List Nat := [1116352408, 1899447441, 3049323471, 3921009573, 961987163, 1508970993, 2453635748, 2870763221, 3624381080, 310598401, 607225278, 1426881987, 1925078388, 2162078206, 2614888103, 3248222580, 3835390401, 4022224774, 264347078, 604807628, 770255983, 1249150122, 1555081692, 1996064986, 2554220882, 2821834349, 2952996808, 3210313671, 3336571891, 3584528711, 113926993, 338241895, 666307205, 773529912, 1294757372, 1396182291, 1695183700, 1986661051, 2177026350, 2456956037, 2730485921, 2820302411, 3259730800, 3345764771, 3516065817, 3600352804, 4094571909, 275423344, 430227734, 506948616, 659060556, 883997877, 958139571, 1322822218, 1537002063, 1747873779, 1955562222, 2024104815, 2227730452, 2361852424, 2428436474, 2756734187, 3204031479, 3329325298]
def firsts : List Nat := [1779033703, 3144134277, 1013904242, 2773480762, 1359893119, 2600822924, 528734635, 1541459225]
theorem kws_lt : ∀ x ∈ kws, x < 4294967296 := by decide +kernel
theorem firsts_lt : ∀ x ∈ firsts, x < 4294967296 := by decide +kernel

def stOf (ws : List Nat) : St := ⟨ws.getD 0 0, ws.getD 1 0, ws.getD 2 0, ws.getD 3 0, ws.getD 4 0, ws.getD 5 0, ws.getD 6 0, ws.getD 7 0⟩
def St.list (s : St) : List Nat := [s.a, s.b, s.c, s.d, s.e, s.f, s.g, s.h]
def addw (ws vs : List Nat) : List Nat := List.zipWith (fun x y => (x + y) % 4294967296) ws vs
/-- The words behind one block more. -/
def comp (ws bs : List Nat) : List Nat := addw ws (runs kws (sched bs 64) (stOf ws) 64).list

theorem stOf_ok (ws : List Nat) (h : ∀ x ∈ ws, x < 4294967296) : (stOf ws).Ok := ⟨getD_lt (by omega) h 0, getD_lt (by omega) h 1, getD_lt (by omega) h 2, getD_lt (by omega) h 3, getD_lt (by omega) h 4, getD_lt (by omega) h 5, getD_lt (by omega) h 6, getD_lt (by omega) h 7⟩

theorem addw_lt : ∀ (ws vs : List Nat), ∀ x ∈ addw ws vs, x < 4294967296
  | [], _ => by simp [addw]
  | _ :: _, [] => by simp [addw]
  | a :: ws, b :: vs => by
    intro x hx
    simp only [addw, List.zipWith_cons_cons, List.mem_cons] at hx
    rcases hx with rfl | hx
    · exact Nat.mod_lt _ (by omega)
    · exact addw_lt ws vs x hx

theorem comp_length (ws bs : List Nat) (h : ws.length = 8) : (comp ws bs).length = 8 := by simp [comp, addw, St.list, h]
theorem comp_lt (ws bs : List Nat) : ∀ x ∈ comp ws bs, x < 4294967296 := addw_lt _ _

/-- The words behind n blocks of bytes. -/
def wordsAt (l : List Nat) : Nat → List Nat
  | 0 => firsts
  | n + 1 => comp (wordsAt l n) ((l.drop (64 * n)).take 64)

theorem wordsAt_length (l : List Nat) : ∀ n, (wordsAt l n).length = 8
  | 0 => rfl
  | n + 1 => comp_length _ _ (wordsAt_length l n)
theorem wordsAt_lt (l : List Nat) : ∀ n, ∀ x ∈ wordsAt l n, x < 4294967296
  | 0 => firsts_lt
  | n + 1 => comp_lt _ _

theorem wordsAt_append (l m : List Nat) : ∀ n, 64 * n ≤ l.length → wordsAt (l ++ m) n = wordsAt l n
  | 0, _ => rfl
  | n + 1, h => by
    have h1 : 64 * n ≤ l.length := by omega
    simp only [wordsAt]
    rw [wordsAt_append l m n h1, List.drop_append_of_le_length h1, List.take_append_of_le_length (by simp; omega)]

def four (x : Nat) : List Nat := [x / 16777216, x / 65536 % 256, x / 256 % 256, x % 256]
theorem four_lt (x : Nat) (hx : x < 4294967296) : ∀ y ∈ four x, y < 256 := by
  intro y hy
  simp [four] at hy
  omega

/-- What stands behind the last byte. -/
def tail (n : Nat) : List Nat := 128 :: List.replicate (63 - (n + 8) % 64) 0
def pad (l : List Nat) : List Nat := l ++ tail l.length ++ four (8 * l.length / 4294967296) ++ four (8 * l.length % 4294967296)
/-- The sum of bytes. -/
def sha (l : List Nat) : List Nat := (wordsAt (pad l) ((pad l).length / 64)).flatMap four

theorem sha_length (l : List Nat) : (sha l).length = 32 := by
  unfold sha
  have h : ∀ ws : List Nat, (ws.flatMap four).length = 4 * ws.length := by
    intro ws
    induction ws with
    | nil => rfl
    | cons a r ih => simp [four] at ih ⊢; omega
  rw [h, wordsAt_length]

theorem pad_length (l : List Nat) : (pad l).length = l.length + 64 - (l.length + 8) % 64 + 8 := by
  simp [pad, tail, four]
  omega
theorem pad_whole (l : List Nat) : (pad l).length % 64 = 0 := by
  rw [pad_length]
  omega

theorem abc : (sha [97, 98, 99]).getD 0 0 = 186 ∧ (sha [97, 98, 99]).getD 1 0 = 120 ∧ (sha [97, 98, 99]).getD 2 0 = 22 ∧ (sha [97, 98, 99]).getD 3 0 = 191 ∧ (sha [97, 98, 99]).getD 30 0 = 21 ∧ (sha [97, 98, 99]).getD 31 0 = 173 := by
  decide +kernel
end Go.Proofs.YtbdjlnejlkiijaaDoorRRR
