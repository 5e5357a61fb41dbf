/-
  The standard's numbers (SHA-256), as functions on plain lists of numbers: words turned, a block's plan, the rounds, the sum of bytes; what is below two to the thirty-second stays below it.
  SHA-256 as the kernel works it out fast: the same sum as the standard's (a block's sixteen next words at hand, each number worked out at once).
  math/bits.RotateLeft32 at the ten turns that mill asks for, and mill.bytesOf: what they answer for every word; memory that was there stays as it was.
  Blocks that are known whole, and what is written in one of them alone.
  mill.spread (function 33): of any 64 bytes the plan, one word for each round; memory that was there stays as it was.
  mill.grind (function 32): a full block is brought into the words; only the mill's own block is written.
  What a mill is that has taken in some bytes; what it is behind some more; slices of bytes that are read.
  mill.take (function 26): a mill into which some bytes came has, behind a slice of bytes more, taken in these, too; only its own block is written.
  mill.end (function 27): a mill into which some bytes came has taken in what the standard puts behind them, too; only its own block is written.
  (*Mill).Sum (function 15): of a mill into which some bytes came the answer is their sum; nothing that was there is written.
  (*Mill).Write, mill.New, mill.Of, and a nil mill: the sum of parts is that of all their bytes, one behind the other; nothing that was there is written but the mill itself.
  The statements awake (function 9): the document's example holds; nothing that was there is written.
  Rows of bytes compared (arrays), and a nil log: small facts for the statements.
  Some parts that came in, and what stays of a mill behind what is written elsewhere.
  mill.For (function 16) and mill.Lock (function 18): the sum for a domain of parts is that of the document's text; nothing that was there is written.
  The document's lamp as numbers: secrets, covers, bits, leaves, signatures; what a signature leads to is its key's leaf; the leaf of zero's seed isn't zero (worked out).
-/
import Derived.Laws.BitsAllLaws
import Derived.Test.YtkonokjhpddbfaaDoorProg
import Derived.WalkKit
import Derived.WalkSpells
import Derived.WalkSmall
import Derived.LoopN
import Derived.Lib.Hide
import Derived.Maps.AppendAt
import Derived.Deep.Draws
import Derived.Deep.QuietTactic
import Derived.BigQuiet
import Derived.StillTailTactics
import Derived.RegionTactic
import Derived.BigRegion
import Derived.Deep.MidRow
import Derived.Deep.WholeRow
import Derived.Laws.CopyOwn
import Derived.Deep.RegionLaw
import Derived.Deep.Cut
import Derived.Lib.SlBytesConst
import Derived.ChangeKeysEq
import Derived.Laws.StructEq
namespace Go.Proofs.YtkonokjhpddbfaaDoor
set_option linter.unusedVariables false

/-- A word turned to the right. -/
def rotr (n x : Nat) : Nat := x / 2 ^ n + x % 2 ^ n * 2 ^ (32 - n)
def sgA (x : Nat) : Nat := rotr 7 x ^^^ rotr 18 x ^^^ x / 8
def sgB (x : Nat) : Nat := rotr 17 x ^^^ rotr 19 x ^^^ x / 1024
def bgE (x : Nat) : Nat := rotr 6 x ^^^ rotr 11 x ^^^ rotr 25 x
def bgA (x : Nat) : Nat := rotr 2 x ^^^ rotr 13 x ^^^ rotr 22 x
def chs (e f g : Nat) : Nat := (e &&& f) ^^^ ((4294967295 - e) &&& g)
def maj (a b c : Nat) : Nat := (a &&& b) ^^^ (a &&& c) ^^^ (b &&& c)

theorem rotr_lt (n x : Nat) (hn : n ≤ 32) (hx : x < 4294967296) : rotr n x < 4294967296 := by
  unfold rotr
  have hp : 0 < 2 ^ n := Nat.pow_pos (by omega)
  have e : 2 ^ n * 2 ^ (32 - n) = 4294967296 := by rw [← Nat.pow_add, show n + (32 - n) = 32 by omega]
  have h1 : x / 2 ^ n < 2 ^ (32 - n) := by
    rw [Nat.div_lt_iff_lt_mul hp, Nat.mul_comm, e]; exact hx
  have h2 : x % 2 ^ n + 1 ≤ 2 ^ n := Nat.mod_lt _ hp
  have h3 := Nat.mul_le_mul_right (2 ^ (32 - n)) h2
  rw [e, Nat.add_mul] at h3
  omega

theorem rotr_or (n x : Nat) (hn : n ≤ 32) (hx : x < 4294967296) : (x * 2 ^ (32 - n)) % 4294967296 ||| x / 2 ^ n = rotr n x := by
  have hp : 0 < 2 ^ n := Nat.pow_pos (by omega)
  have e : 2 ^ n * 2 ^ (32 - n) = 4294967296 := by rw [← Nat.pow_add, show n + (32 - n) = 32 by omega]
  have h1 : x / 2 ^ n < 2 ^ (32 - n) := by
    rw [Nat.div_lt_iff_lt_mul hp, Nat.mul_comm, e]; exact hx
  have h2 : (x * 2 ^ (32 - n)) % 4294967296 = x % 2 ^ n * 2 ^ (32 - n) := by rw [← e, Nat.mul_mod_mul_right]
  rw [h2, nat_join (32 - n) _ _ (by simp) h1]
  unfold rotr
  omega

theorem xor_lt {a b : Nat} (ha : a < 4294967296) (hb : b < 4294967296) : a ^^^ b < 4294967296 := Nat.xor_lt_two_pow (n := 32) ha hb
theorem and_lt {a b : Nat} (hb : b < 4294967296) : a &&& b < 4294967296 := Nat.and_lt_two_pow (n := 32) _ hb
/-- The eight words. -/
structure St where
  a : Nat
  b : Nat
  c : Nat
  d : Nat
  e : Nat
  f : Nat
  g : Nat
  h : Nat

structure St.Ok (s : St) : Prop where
  a : s.a < 4294967296
  b : s.b < 4294967296
  c : s.c < 4294967296
  d : s.d < 4294967296
  e : s.e < 4294967296
  f : s.f < 4294967296
  g : s.g < 4294967296
  h : s.h < 4294967296

def fst (s : St) (k w : Nat) : Nat := (s.h + bgE s.e + chs s.e s.f s.g + k + w) % 4294967296
/-- One round. -/
def rnd (s : St) (k w : Nat) : St := ⟨(fst s k w + bgA s.a + maj s.a s.b s.c) % 4294967296, s.a, s.b, s.c, (s.d + fst s k w) % 4294967296, s.e, s.f, s.g⟩

theorem rnd_ok (s : St) (k w : Nat) (h : s.Ok) : (rnd s k w).Ok := ⟨Nat.mod_lt _ (by omega), h.a, h.b, h.c, Nat.mod_lt _ (by omega), h.e, h.f, h.g⟩

def runs (K W : List Nat) (s : St) : Nat → St
  | 0 => s
  | n + 1 => rnd (runs K W s n) (K.getD n 0) (W.getD n 0)

theorem runs_ok (K W : List Nat) (s : St) (h : s.Ok) : ∀ n, (runs K W s n).Ok
  | 0 => h
  | n + 1 => rnd_ok _ _ _ (runs_ok K W s h n)

/-- A block's word. -/
def word (m : List Nat) (i : Nat) : Nat := m.getD (4 * i) 0 * 16777216 + m.getD (4 * i + 1) 0 * 65536 + m.getD (4 * i + 2) 0 * 256 + m.getD (4 * i + 3) 0
def more (W : List Nat) (i : Nat) : Nat := (W.getD (i - 16) 0 + sgA (W.getD (i - 15) 0) + W.getD (i - 7) 0 + sgB (W.getD (i - 2) 0)) % 4294967296
def nextW (m W : List Nat) (i : Nat) : Nat := if i < 16 then word m i else more W i
/-- A block's plan: one word for each round. -/
def sched (m : List Nat) : Nat → List Nat
  | 0 => []
  | i + 1 => sched m i ++ [nextW m (sched m i) i]

theorem sched_length (m : List Nat) : ∀ n, (sched m n).length = n
  | 0 => rfl
  | n + 1 => by simp [sched, sched_length m n]

theorem getD_lt {l : List Nat} {B : Nat} (hB : 0 < B) (h : ∀ x ∈ l, x < B) (i : Nat) : l.getD i 0 < B := by
  rcases Nat.lt_or_ge i l.length with hi | hi
  · simp only [List.getD, List.getElem?_eq_getElem hi, Option.getD_some]
    exact h _ (List.getElem_mem hi)
  · simp [List.getD, List.getElem?_eq_none hi, hB]

theorem word_lt (m : List Nat) (hm : ∀ x ∈ m, x < 256) (i : Nat) : word m i < 4294967296 := by
  have h0 := getD_lt (by omega) hm (4 * i)
  have h1 := getD_lt (by omega) hm (4 * i + 1)
  have h2 := getD_lt (by omega) hm (4 * i + 2)
  have h3 := getD_lt (by omega) hm (4 * i + 3)
  unfold word
  omega

theorem sched_lt (m : List Nat) (hm : ∀ x ∈ m, x < 256) : ∀ n, ∀ x ∈ sched m n, x < 4294967296
  | 0 => by simp [sched]
  | n + 1 => by
    intro x hx
    simp only [sched, List.mem_append, List.mem_singleton] at hx
    rcases hx with hx | rfl
    · exact sched_lt m hm n x hx
    · unfold nextW
      split
      · exact word_lt m hm n
      · exact Nat.mod_lt _ (by omega)

/-- The standard's constants. -/
def kws : List Nat := [1116352408, 1899447441, 3049323471, 3921009573, 961987163, 1508970993, 2453635748, 2870763221, 3624381080, 310598401, 607225278, 1426881987, 1925078388, 2162078206, 2614888103, 3248222580, 3835390401, 4022224774, 264347078, 604807628, 770255983, 1249150122, 1555081692, 1996064986, 2554220882, 2821834349, 2952996808, 3210313671, 3336571891, 3584528711, 113926993, 338241895, 666307205, 773529912, 1294757372, 1396182291, 1695183700, 1986661051, 2177026350, 2456956037, 2730485921, 2820302411, 3259730800, 3345764771, 3516065817, 3600352804, 4094571909, 275423344, 430227734, 506948616, 659060556, 883997877, 958139571, 1322822218, 1537002063, 1747873779, 1955562222, 2024104815, 2227730452, 2361852424, 2428436474, 2756734187, 3204031479, 3329325298]
def firsts : List Nat := [1779033703, 3144134277, 1013904242, 2773480762, 1359893119, 2600822924, 528734635, 1541459225]
theorem kws_lt : ∀ x ∈ kws, x < 4294967296 := by decide +kernel
theorem firsts_lt : ∀ x ∈ firsts, x < 4294967296 := by decide +kernel

def stOf (ws : List Nat) : St := ⟨ws.getD 0 0, ws.getD 1 0, ws.getD 2 0, ws.getD 3 0, ws.getD 4 0, ws.getD 5 0, ws.getD 6 0, ws.getD 7 0⟩
def St.list (s : St) : List Nat := [s.a, s.b, s.c, s.d, s.e, s.f, s.g, s.h]
def addw (ws vs : List Nat) : List Nat := List.zipWith (fun x y => (x + y) % 4294967296) ws vs
/-- The words behind one block more. -/
def comp (ws bs : List Nat) : List Nat := addw ws (runs kws (sched bs 64) (stOf ws) 64).list

theorem stOf_ok (ws : List Nat) (h : ∀ x ∈ ws, x < 4294967296) : (stOf ws).Ok := ⟨getD_lt (by omega) h 0, getD_lt (by omega) h 1, getD_lt (by omega) h 2, getD_lt (by omega) h 3, getD_lt (by omega) h 4, getD_lt (by omega) h 5, getD_lt (by omega) h 6, getD_lt (by omega) h 7⟩

theorem addw_lt : ∀ (ws vs : List Nat), ∀ x ∈ addw ws vs, x < 4294967296
  | [], _ => by simp [addw]
  | _ :: _, [] => by simp [addw]
  | a :: ws, b :: vs => by
    intro x hx
    simp only [addw, List.zipWith_cons_cons, List.mem_cons] at hx
    rcases hx with rfl | hx
    · exact Nat.mod_lt _ (by omega)
    · exact addw_lt ws vs x hx

theorem comp_length (ws bs : List Nat) (h : ws.length = 8) : (comp ws bs).length = 8 := by simp [comp, addw, St.list, h]
theorem comp_lt (ws bs : List Nat) : ∀ x ∈ comp ws bs, x < 4294967296 := addw_lt _ _

/-- The words behind n blocks of bytes. -/
def wordsAt (l : List Nat) : Nat → List Nat
  | 0 => firsts
  | n + 1 => comp (wordsAt l n) ((l.drop (64 * n)).take 64)

theorem wordsAt_length (l : List Nat) : ∀ n, (wordsAt l n).length = 8
  | 0 => rfl
  | n + 1 => comp_length _ _ (wordsAt_length l n)
theorem wordsAt_lt (l : List Nat) : ∀ n, ∀ x ∈ wordsAt l n, x < 4294967296
  | 0 => firsts_lt
  | n + 1 => comp_lt _ _

theorem wordsAt_append (l m : List Nat) : ∀ n, 64 * n ≤ l.length → wordsAt (l ++ m) n = wordsAt l n
  | 0, _ => rfl
  | n + 1, h => by
    have h1 : 64 * n ≤ l.length := by omega
    simp only [wordsAt]
    rw [wordsAt_append l m n h1, List.drop_append_of_le_length h1, List.take_append_of_le_length (by simp; omega)]

def four (x : Nat) : List Nat := [x / 16777216, x / 65536 % 256, x / 256 % 256, x % 256]
theorem four_lt (x : Nat) (hx : x < 4294967296) : ∀ y ∈ four x, y < 256 := by
  intro y hy
  simp [four] at hy
  omega

/-- What stands behind the last byte. -/
def tail (n : Nat) : List Nat := 128 :: List.replicate (63 - (n + 8) % 64) 0
def pad (l : List Nat) : List Nat := l ++ tail l.length ++ four (8 * l.length / 4294967296) ++ four (8 * l.length % 4294967296)
/-- The sum of bytes. -/
def sha (l : List Nat) : List Nat := (wordsAt (pad l) ((pad l).length / 64)).flatMap four

theorem sha_length (l : List Nat) : (sha l).length = 32 := by
  unfold sha
  have h : ∀ ws : List Nat, (ws.flatMap four).length = 4 * ws.length := by
    intro ws
    induction ws with
    | nil => rfl
    | cons a r ih => simp [four] at ih ⊢; omega
  rw [h, wordsAt_length]

theorem pad_length (l : List Nat) : (pad l).length = l.length + 64 - (l.length + 8) % 64 + 8 := by
  simp [pad, tail, four]
  omega
end Go.Proofs.YtkonokjhpddbfaaDoor
namespace Go.Proofs.YtkonokjhpddbfaaDoor
set_option linter.unusedVariables false

@[reducible] def frc {α : Type} (x : Nat) (k : Nat → α) : α := Nat.casesOn x (k 0) (fun n => k (Nat.succ n))
theorem frc_eq {α : Type} (x : Nat) (k : Nat → α) : frc x k = k x := by cases x <;> rfl

def qr (p q x : Nat) : Nat := Nat.add (Nat.div x p) (Nat.mul (Nat.mod x p) q)
def qgA (x : Nat) : Nat := Nat.xor (Nat.xor (qr 128 33554432 x) (qr 262144 16384 x)) (Nat.div x 8)
def qgB (x : Nat) : Nat := Nat.xor (Nat.xor (qr 131072 32768 x) (qr 524288 8192 x)) (Nat.div x 1024)
def qE (x : Nat) : Nat := Nat.xor (Nat.xor (qr 64 67108864 x) (qr 2048 2097152 x)) (qr 33554432 128 x)
def qA (x : Nat) : Nat := Nat.xor (Nat.xor (qr 4 1073741824 x) (qr 8192 524288 x)) (qr 4194304 1024 x)
def qch (e f g : Nat) : Nat := Nat.xor (Nat.land e f) (Nat.land (Nat.sub 4294967295 e) g)
def qmj (a b c : Nat) : Nat := Nat.xor (Nat.xor (Nat.land a b) (Nat.land a c)) (Nat.land b c)

/-- The rounds, with the plan's next sixteen words at hand. -/
def qgo : List Nat → Nat → Nat → Nat → Nat → Nat → Nat → Nat → Nat → Nat → Nat → Nat → Nat → Nat → Nat → Nat → Nat → Nat → Nat → Nat → Nat → Nat → Nat → Nat → Nat → St
  | [], _, _, _, _, _, _, _, _, _, _, _, _, _, _, _, _, a, b, c, d, e, f, g, h => ⟨a, b, c, d, e, f, g, h⟩
  | k :: K, w0, w1, w2, w3, w4, w5, w6, w7, w8, w9, w10, w11, w12, w13, w14, w15, a, b, c, d, e, f, g, h =>
    frc (Nat.mod (Nat.add (Nat.add (Nat.add (Nat.add h (qE e)) (qch e f g)) k) w0) 4294967296) fun t =>
    frc (Nat.mod (Nat.add (Nat.add t (qA a)) (qmj a b c)) 4294967296) fun a' =>
    frc (Nat.mod (Nat.add d t) 4294967296) fun e' =>
    frc (Nat.mod (Nat.add (Nat.add (Nat.add w0 (qgA w1)) w9) (qgB w14)) 4294967296) fun w16 =>
    qgo K w1 w2 w3 w4 w5 w6 w7 w8 w9 w10 w11 w12 w13 w14 w15 w16 a' a b c e' e f g

def wv (bs : List Nat) (i : Nat) : Nat := nextW bs (sched bs i) i
theorem sched_getD (bs : List Nat) : ∀ n i, i < n → (sched bs n).getD i 0 = wv bs i
  | 0, i, h => by omega
  | n + 1, i, h => by
    simp only [sched]
    rcases Nat.lt_or_ge i n with h1 | h1
    · rw [← sched_getD bs n i h1]
      simp [List.getD, List.getElem?_append_left, sched_length, h1]
    · have : i = n := by omega
      subst this
      simp [List.getD, sched_length, wv]
theorem wv_more (bs : List Nat) (i : Nat) : wv bs (i + 16) = (wv bs i + sgA (wv bs (i + 1)) + wv bs (i + 9) + sgB (wv bs (i + 14))) % 4294967296 := by
  have h : wv bs (i + 16) = more (sched bs (i + 16)) (i + 16) := by unfold wv nextW; rw [if_neg (by omega)]
  rw [h]
  unfold more
  rw [sched_getD _ _ _ (by omega), sched_getD _ _ _ (by omega), sched_getD _ _ _ (by omega), sched_getD _ _ _ (by omega)]
  rw [show i + 16 - 16 = i by omega, show i + 16 - 15 = i + 1 by omega, show i + 16 - 7 = i + 9 by omega, show i + 16 - 2 = i + 14 by omega]

theorem qgo_runs (K bs : List Nat) (s : St) (hk : K.length = 64) : ∀ (m n : Nat), n + m = 64 →
    qgo (K.drop n) (wv bs n) (wv bs (n + 1)) (wv bs (n + 2)) (wv bs (n + 3)) (wv bs (n + 4)) (wv bs (n + 5)) (wv bs (n + 6)) (wv bs (n + 7)) (wv bs (n + 8)) (wv bs (n + 9)) (wv bs (n + 10)) (wv bs (n + 11)) (wv bs (n + 12)) (wv bs (n + 13)) (wv bs (n + 14)) (wv bs (n + 15))
      (runs K (sched bs 64) s n).a (runs K (sched bs 64) s n).b (runs K (sched bs 64) s n).c (runs K (sched bs 64) s n).d (runs K (sched bs 64) s n).e (runs K (sched bs 64) s n).f (runs K (sched bs 64) s n).g (runs K (sched bs 64) s n).h = runs K (sched bs 64) s 64
  | 0, n, h => by
    obtain rfl : n = 64 := by omega
    rw [List.drop_of_length_le (by omega)]
    rfl
  | m + 1, n, h => by
    have hd : K.drop n = K.getD n 0 :: K.drop (n + 1) := by
      have hl : n < K.length := by omega
      rw [List.drop_eq_getElem_cons hl]
      simp [List.getD, hl]
    have ih := qgo_runs K bs s hk m (n + 1) (by omega)
    rw [hd]
    simp only [qgo, frc_eq]
    rw [← ih]
    have e : runs K (sched bs 64) s (n + 1) = rnd (runs K (sched bs 64) s n) (K.getD n 0) (wv bs n) := by
      rw [← sched_getD bs 64 n (by omega)]; rfl
    have hw : wv bs (n + 1 + 15) = Nat.mod (Nat.add (Nat.add (Nat.add (wv bs n) (qgA (wv bs (n + 1)))) (wv bs (n + 9))) (qgB (wv bs (n + 14)))) 4294967296 := wv_more bs n
    rw [← hw, e]
    simp only [show n + 1 + 1 = n + 2 by omega, show n + 1 + 2 = n + 3 by omega, show n + 1 + 3 = n + 4 by omega, show n + 1 + 4 = n + 5 by omega, show n + 1 + 5 = n + 6 by omega, show n + 1 + 6 = n + 7 by omega, show n + 1 + 7 = n + 8 by omega, show n + 1 + 8 = n + 9 by omega, show n + 1 + 9 = n + 10 by omega, show n + 1 + 10 = n + 11 by omega, show n + 1 + 11 = n + 12 by omega, show n + 1 + 12 = n + 13 by omega, show n + 1 + 13 = n + 14 by omega, show n + 1 + 14 = n + 15 by omega]
    rfl


/-- A block's words out of its bytes. -/
def qwords : List Nat → List Nat
  | p :: q :: r :: s :: l => frc (Nat.add (Nat.add (Nat.add (Nat.mul p 16777216) (Nat.mul q 65536)) (Nat.mul r 256)) s) fun w => w :: qwords l
  | _ => []
theorem qwords_getD : ∀ (l : List Nat) (i : Nat), 4 * i + 3 < l.length → (qwords l).getD i 0 = word l i
  | [], i, h => by simp at h
  | [_], i, h => by simp at h
  | [_, _], i, h => by simp at h; omega
  | [_, _, _], i, h => by simp at h; omega
  | p :: q :: r :: s :: l, 0, h => by
    simp only [qwords, frc_eq]
    rfl
  | p :: q :: r :: s :: l, i + 1, h => by
    have ih := qwords_getD l i (by simp at h; omega)
    simp only [qwords, frc_eq]
    rw [show (∀ (x : Nat) (m : List Nat), (x :: m).getD (i + 1) 0 = m.getD i 0) from fun _ _ => by simp [List.getD], ih]
    unfold word
    rw [show 4 * (i + 1) = 4 * i + 4 by omega]
    simp [List.getD]

def qadd (x y : Nat) : Nat := Nat.mod (Nat.add x y) 4294967296
def qblk (K : List Nat) (ws : St) (W : List Nat) : St :=
  frc (W.getD 0 0) fun w0 => frc (W.getD 1 0) fun w1 => frc (W.getD 2 0) fun w2 => frc (W.getD 3 0) fun w3 => frc (W.getD 4 0) fun w4 => frc (W.getD 5 0) fun w5 => frc (W.getD 6 0) fun w6 => frc (W.getD 7 0) fun w7 =>
  frc (W.getD 8 0) fun w8 => frc (W.getD 9 0) fun w9 => frc (W.getD 10 0) fun w10 => frc (W.getD 11 0) fun w11 => frc (W.getD 12 0) fun w12 => frc (W.getD 13 0) fun w13 => frc (W.getD 14 0) fun w14 => frc (W.getD 15 0) fun w15 =>
  St.casesOn ws fun a b c d e f g h =>
  St.casesOn (qgo K w0 w1 w2 w3 w4 w5 w6 w7 w8 w9 w10 w11 w12 w13 w14 w15 a b c d e f g h) fun a' b' c' d' e' f' g' h' =>
  frc (qadd a a') fun a => frc (qadd b b') fun b => frc (qadd c c') fun c => frc (qadd d d') fun d => frc (qadd e e') fun e => frc (qadd f f') fun f => frc (qadd g g') fun g => frc (qadd h h') fun h => ⟨a, b, c, d, e, f, g, h⟩

theorem qblk_eq (K : List Nat) (ws : St) (W bs : List Nat) (hk : K.length = 64) (h : ∀ i, i < 16 → W.getD i 0 = wv bs i) (R : St) (hR : runs K (sched bs 64) ws 64 = R) : (qblk K ws W).list = addw ws.list R.list := by
  have hr := qgo_runs K bs ws hk 64 0 (by omega)
  rw [hR] at hr
  clear hR
  unfold qblk
  simp only [frc_eq]
  rw [h 0 (by omega), h 1 (by omega), h 2 (by omega), h 3 (by omega), h 4 (by omega), h 5 (by omega), h 6 (by omega), h 7 (by omega), h 8 (by omega), h 9 (by omega), h 10 (by omega), h 11 (by omega), h 12 (by omega), h 13 (by omega), h 14 (by omega), h 15 (by omega)]
  clear h
  generalize wv bs = v at hr ⊢
  obtain ⟨a, b, c, d, e, f, g, h⟩ := ws
  simp only [List.drop_zero, runs, Nat.zero_add] at hr
  simp only [hr]
  rfl

def qrun (K : List Nat) : Nat → List Nat → St → St
  | 0, _, s => s
  | n + 1, W, s => qrun K n (W.drop 16) (qblk K s W)
theorem qwords_drop : ∀ (k : Nat) (l : List Nat), 4 * k ≤ l.length → (qwords l).drop k = qwords (l.drop (4 * k))
  | 0, l, _ => by simp
  | k + 1, [], h => by simp at h
  | k + 1, [_], h => by simp at h; omega
  | k + 1, [_, _], h => by simp at h; omega
  | k + 1, [_, _, _], h => by simp at h; omega
  | k + 1, p :: q :: r :: s :: l, h => by
    have ih := qwords_drop k l (by simp at h; omega)
    simp only [qwords, frc_eq, List.drop_succ_cons]
    rw [ih, show 4 * (k + 1) = 4 * k + 1 + 1 + 1 + 1 by omega]
    simp
theorem word_take (l : List Nat) (n i : Nat) (h : 4 * i + 3 < n) : word (l.take n) i = word l i := by
  unfold word
  simp only [List.getD, List.getElem?_take]
  rw [if_pos (by omega), if_pos (by omega), if_pos (by omega), if_pos (by omega)]
theorem stOf_list (s : St) : stOf s.list = s := by cases s; rfl
theorem qrun_eq (l : List Nat) (hk : kws.length = 64) : ∀ (m n : Nat) (s : St), s.list = wordsAt l n → 64 * (n + m) ≤ l.length → (qrun kws m (qwords (l.drop (64 * n))) s).list = wordsAt l (n + m)
  | 0, n, s, hs, _ => hs
  | m + 1, n, s, hs, hl => by
    have e : (qwords (l.drop (64 * n))).drop 16 = qwords (l.drop (64 * (n + 1))) := by
      rw [qwords_drop 16 _ (by rw [List.length_drop]; omega), List.drop_drop]
      congr 2
    have hb : (qblk kws s (qwords (l.drop (64 * n)))).list = wordsAt l (n + 1) := by
      rw [qblk_eq kws s (qwords (l.drop (64 * n))) ((l.drop (64 * n)).take 64) hk (fun i hi => by
        rw [qwords_getD _ _ (by rw [List.length_drop]; omega)]
        unfold wv nextW
        rw [if_pos hi, word_take _ _ _ (by omega)]) _ rfl]
      show _ = comp (wordsAt l n) _
      unfold comp
      rw [← hs, stOf_list]
    have ih := qrun_eq l hk m (n + 1) _ hb (by omega)
    show (qrun kws m ((qwords (l.drop (64 * n))).drop 16) (qblk kws s (qwords (l.drop (64 * n))))).list = _
    rw [e, ih, show n + 1 + m = n + (m + 1) by omega]
def qsha (m : Nat) (l : List Nat) : List Nat := (qrun kws m (qwords (pad l)) (stOf firsts)).list.flatMap four
theorem qsha_eq (m : Nat) (l : List Nat) (h : l.length + 64 - (l.length + 8) % 64 + 8 = 64 * m) : qsha m l = sha l := by
  have e := qrun_eq (pad l) (by decide +kernel) m 0 (stOf firsts) rfl (by rw [pad_length]; omega)
  unfold qsha sha
  rw [Nat.mul_zero, List.drop_zero, Nat.zero_add] at e
  rw [e, pad_length, h, Nat.mul_div_cancel_left _ (by omega)]
end Go.Proofs.YtkonokjhpddbfaaDoor
namespace Go.Proofs.YtkonokjhpddbfaaDoor
open Go.RowKit
set_option linter.unusedVariables false

theorem rot_num (n x : Nat) (hn : n ≤ 32) (hx : x < 4294967296) : bits .or .u32 ((x : Int) * ((2 ^ (32 - n) : Nat) : Int) % 4294967296) ((x : Int) / ((2 ^ n : Nat) : Int)) = ((rotr n x : Nat) : Int) := by
  rw [← rotr_or n x hn hx]
  have h1 : (x : Int) * ((2 ^ (32 - n) : Nat) : Int) % 4294967296 = ((x * 2 ^ (32 - n) % 4294967296 : Nat) : Int) := by simp
  have h2 : (x : Int) / ((2 ^ n : Nat) : Int) = ((x / 2 ^ n : Nat) : Int) := by simp
  rw [h1, h2]
  exact u32_or_nat _ _ (Nat.mod_lt _ (by omega)) (Nat.lt_of_le_of_lt (Nat.div_le_self _ _) hx)

theorem ret_u32 {a b : Int} (h : a = b) : Ending.returned (.int .u32 a) = .returned (.int .u32 b) := by rw [h]

set_option maxRecDepth 100000 in
theorem turn6 (x : Nat) (w : World) (hx : x < 4294967296) : Calls Tryd.prog 111 #[.int .u32 (x : Int), .int .i64 (-6)] w fun e w' => e = .returned (.int .u32 ((rotr 6 x : Nat) : Int)) ∧ w = w' := by
  have h0 : (0 : Int) ≤ x := by omega
  have h1 : (x : Int) ≤ 4294967295 := by omega
  have hk : bits .and .u64 (IntKind.u64.wrap (-6)) 31 = 26 := by decide +kernel
  have HN := Lib.hid (rot_num 6 x (by omega) hx)
  go_enter Tryd.func111, Tryd.ntmps111
  go_wp2
  go_ret
  exact ⟨ret_u32 HN.out, rfl⟩

set_option maxRecDepth 100000 in
theorem turn11 (x : Nat) (w : World) (hx : x < 4294967296) : Calls Tryd.prog 111 #[.int .u32 (x : Int), .int .i64 (-11)] w fun e w' => e = .returned (.int .u32 ((rotr 11 x : Nat) : Int)) ∧ w = w' := by
  have h0 : (0 : Int) ≤ x := by omega
  have h1 : (x : Int) ≤ 4294967295 := by omega
  have hk : bits .and .u64 (IntKind.u64.wrap (-11)) 31 = 21 := by decide +kernel
  have HN := Lib.hid (rot_num 11 x (by omega) hx)
  go_enter Tryd.func111, Tryd.ntmps111
  go_wp2
  go_ret
  exact ⟨ret_u32 HN.out, rfl⟩

set_option maxRecDepth 100000 in
theorem turn25 (x : Nat) (w : World) (hx : x < 4294967296) : Calls Tryd.prog 111 #[.int .u32 (x : Int), .int .i64 (-25)] w fun e w' => e = .returned (.int .u32 ((rotr 25 x : Nat) : Int)) ∧ w = w' := by
  have h0 : (0 : Int) ≤ x := by omega
  have h1 : (x : Int) ≤ 4294967295 := by omega
  have hk : bits .and .u64 (IntKind.u64.wrap (-25)) 31 = 7 := by decide +kernel
  have HN := Lib.hid (rot_num 25 x (by omega) hx)
  go_enter Tryd.func111, Tryd.ntmps111
  go_wp2
  go_ret
  exact ⟨ret_u32 HN.out, rfl⟩

set_option maxRecDepth 100000 in
theorem turn2 (x : Nat) (w : World) (hx : x < 4294967296) : Calls Tryd.prog 111 #[.int .u32 (x : Int), .int .i64 (-2)] w fun e w' => e = .returned (.int .u32 ((rotr 2 x : Nat) : Int)) ∧ w = w' := by
  have h0 : (0 : Int) ≤ x := by omega
  have h1 : (x : Int) ≤ 4294967295 := by omega
  have hk : bits .and .u64 (IntKind.u64.wrap (-2)) 31 = 30 := by decide +kernel
  have HN := Lib.hid (rot_num 2 x (by omega) hx)
  go_enter Tryd.func111, Tryd.ntmps111
  go_wp2
  go_ret
  exact ⟨ret_u32 HN.out, rfl⟩

set_option maxRecDepth 100000 in
theorem turn13 (x : Nat) (w : World) (hx : x < 4294967296) : Calls Tryd.prog 111 #[.int .u32 (x : Int), .int .i64 (-13)] w fun e w' => e = .returned (.int .u32 ((rotr 13 x : Nat) : Int)) ∧ w = w' := by
  have h0 : (0 : Int) ≤ x := by omega
  have h1 : (x : Int) ≤ 4294967295 := by omega
  have hk : bits .and .u64 (IntKind.u64.wrap (-13)) 31 = 19 := by decide +kernel
  have HN := Lib.hid (rot_num 13 x (by omega) hx)
  go_enter Tryd.func111, Tryd.ntmps111
  go_wp2
  go_ret
  exact ⟨ret_u32 HN.out, rfl⟩

set_option maxRecDepth 100000 in
theorem turn22 (x : Nat) (w : World) (hx : x < 4294967296) : Calls Tryd.prog 111 #[.int .u32 (x : Int), .int .i64 (-22)] w fun e w' => e = .returned (.int .u32 ((rotr 22 x : Nat) : Int)) ∧ w = w' := by
  have h0 : (0 : Int) ≤ x := by omega
  have h1 : (x : Int) ≤ 4294967295 := by omega
  have hk : bits .and .u64 (IntKind.u64.wrap (-22)) 31 = 10 := by decide +kernel
  have HN := Lib.hid (rot_num 22 x (by omega) hx)
  go_enter Tryd.func111, Tryd.ntmps111
  go_wp2
  go_ret
  exact ⟨ret_u32 HN.out, rfl⟩

set_option maxRecDepth 100000 in
theorem turn7 (x : Nat) (w : World) (hx : x < 4294967296) : Calls Tryd.prog 111 #[.int .u32 (x : Int), .int .i64 (-7)] w fun e w' => e = .returned (.int .u32 ((rotr 7 x : Nat) : Int)) ∧ w = w' := by
  have h0 : (0 : Int) ≤ x := by omega
  have h1 : (x : Int) ≤ 4294967295 := by omega
  have hk : bits .and .u64 (IntKind.u64.wrap (-7)) 31 = 25 := by decide +kernel
  have HN := Lib.hid (rot_num 7 x (by omega) hx)
  go_enter Tryd.func111, Tryd.ntmps111
  go_wp2
  go_ret
  exact ⟨ret_u32 HN.out, rfl⟩

set_option maxRecDepth 100000 in
theorem turn18 (x : Nat) (w : World) (hx : x < 4294967296) : Calls Tryd.prog 111 #[.int .u32 (x : Int), .int .i64 (-18)] w fun e w' => e = .returned (.int .u32 ((rotr 18 x : Nat) : Int)) ∧ w = w' := by
  have h0 : (0 : Int) ≤ x := by omega
  have h1 : (x : Int) ≤ 4294967295 := by omega
  have hk : bits .and .u64 (IntKind.u64.wrap (-18)) 31 = 14 := by decide +kernel
  have HN := Lib.hid (rot_num 18 x (by omega) hx)
  go_enter Tryd.func111, Tryd.ntmps111
  go_wp2
  go_ret
  exact ⟨ret_u32 HN.out, rfl⟩

set_option maxRecDepth 100000 in
theorem turn17 (x : Nat) (w : World) (hx : x < 4294967296) : Calls Tryd.prog 111 #[.int .u32 (x : Int), .int .i64 (-17)] w fun e w' => e = .returned (.int .u32 ((rotr 17 x : Nat) : Int)) ∧ w = w' := by
  have h0 : (0 : Int) ≤ x := by omega
  have h1 : (x : Int) ≤ 4294967295 := by omega
  have hk : bits .and .u64 (IntKind.u64.wrap (-17)) 31 = 15 := by decide +kernel
  have HN := Lib.hid (rot_num 17 x (by omega) hx)
  go_enter Tryd.func111, Tryd.ntmps111
  go_wp2
  go_ret
  exact ⟨ret_u32 HN.out, rfl⟩

set_option maxRecDepth 100000 in
theorem turn19 (x : Nat) (w : World) (hx : x < 4294967296) : Calls Tryd.prog 111 #[.int .u32 (x : Int), .int .i64 (-19)] w fun e w' => e = .returned (.int .u32 ((rotr 19 x : Nat) : Int)) ∧ w = w' := by
  have h0 : (0 : Int) ≤ x := by omega
  have h1 : (x : Int) ≤ 4294967295 := by omega
  have hk : bits .and .u64 (IntKind.u64.wrap (-19)) 31 = 13 := by decide +kernel
  have HN := Lib.hid (rot_num 19 x (by omega) hx)
  go_enter Tryd.func111, Tryd.ntmps111
  go_wp2
  go_ret
  exact ⟨ret_u32 HN.out, rfl⟩

/-- A row of words, of bytes. -/
def w32 (l : List Nat) : List Value := l.map fun (x : Nat) => Value.int .u32 (x : Int)
def w8 (l : List Nat) : List Value := l.map fun (x : Nat) => Value.int .u8 (x : Int)
theorem w32_length (l : List Nat) : (w32 l).length = l.length := by simp [w32]
theorem w8_length (l : List Nat) : (w8 l).length = l.length := by simp [w8]
theorem w32_one (l : List Nat) : ∀ v ∈ w32 l, v.oneCell' = true := by intro v hv; obtain ⟨n, _, rfl⟩ := List.mem_map.1 hv; rfl
theorem w8_one (l : List Nat) : ∀ v ∈ w8 l, v.oneCell' = true := by intro v hv; obtain ⟨n, _, rfl⟩ := List.mem_map.1 hv; rfl
theorem w32_get (l : List Nat) (i : Nat) (h : i < l.length) : (w32 l)[i]? = some (.int .u32 ((l.getD i 0 : Nat) : Int)) := by simp [w32, List.getD, h]
theorem w8_get (l : List Nat) (i : Nat) (h : i < l.length) : (w8 l)[i]? = some (.int .u8 ((l.getD i 0 : Nat) : Int)) := by simp [w8, List.getD, h]

set_option maxRecDepth 100000 in
theorem bytesOf_any (x : Nat) (w : World) (hx : x < 4294967296) : Calls Tryd.prog 107 #[.int .u32 (x : Int)] w fun e w' => e = .returned (.agg (w8 (four x)).toArray) ∧ Below w.heap.size w w' := by
  have h0 : (0 : Int) ≤ x := by omega
  have h1 : (x : Int) ≤ 4294967295 := by omega
  go_enter Tryd.func107, Tryd.ntmps107
  go_wp2
  exact bodyPost_ret (v := .agg #[.int .u8 ((x : Int) / 16777216), .int .u8 ((x : Int) / 65536 % 256), .int .u8 ((x : Int) / 256 % 256), .int .u8 ((x : Int) % 256)]) (by simp [results, Tryd.results107, go_sem]) rfl ⟨rfl, (Below.refl _ _).alloc (Nat.le_refl _) _⟩
end Go.Proofs.YtkonokjhpddbfaaDoor
namespace Go.Proofs.YtkonokjhpddbfaaDoor
open Go.RowKit
set_option linter.unusedVariables false

/-- A block that is known whole, and may be written. -/
def Blk (w : World) (g : Nat) (t : TypeId) (cs : List Value) : Prop := w.heap[g]? = some (.cells cs.toArray t (0, 0))

section
variable {w w' : World} {g : Nat} {t : TypeId} {cs : List Value}
theorem Blk.lt (h : Blk w g t cs) : g < w.heap.size := by
  rcases Nat.lt_or_ge g w.heap.size with hlt | hge
  · exact hlt
  · unfold Blk at h; rw [Array.getElem?_eq_none hge] at h; cases h
theorem Blk.cell (h : Blk w g t cs) (i : Nat) : w.cell? ⟨g, i, none⟩ = cs[i]? := by
  rw [cell_of_row w g i cs.toArray t (0, 0) h]; simp
theorem Blk.frozen (h : Blk w g t cs) (i : Nat) : w.frozen? ⟨g, i, none⟩ = false := by
  unfold Blk at h
  simp [World.frozen?, h]
theorem Blk.new (w : World) (t : TypeId) (cs : List Value) : Blk (w.alloc (.cells cs.toArray t)) w.heap.size t cs := heap_alloc_last w _
theorem Blk.drewN (h : Blk w g t cs) (n : Nat) : Blk (w.drewN n) g t cs := h
theorem Blk.alloc (h : Blk w g t cs) (o : Obj) : Blk (w.alloc o) g t cs := (Below.heap_alloc w o g h.lt).trans h
theorem Blk.set_ (h : Blk w g t cs) (i : Nat) (u : Value) : Blk (w.setCell ⟨g, i, none⟩ u) g t (cs.set i u) := by
  unfold Blk at h ⊢
  rw [setCell_eq_setRow w g i cs.toArray t (0, 0) u h, setRow_heap w g cs.toArray _ t _ h]
  simp
theorem Blk.far (h : Blk w g t cs) {p : Addr} (hp : g ≠ p.block) (u : Value) : Blk (w.setCell p u) g t cs := (Below.heap_setCell w p u g hp).trans h
theorem Blk.below {B : Nat} (h : Blk w g t cs) (hb : Below B w w') (hg : g < B) : Blk w' g t cs := (hb.block g hg).trans h
theorem Blk.grown {row : Option Nat} (h : Blk w g t cs) (hb : w.grownBy w' row) (hg : some g ≠ row) : Blk w' g t cs := (hb.block g h.lt hg).trans h
theorem Blk.ne_ {g' : Nat} {t' : TypeId} {cs' : List Value} (h : Blk w g t cs) (h' : Blk w g' t' cs') (hne : t ≠ t') : g ≠ g' := by
  rintro rfl
  unfold Blk at h h'
  rw [h] at h'
  injection h' with h'
  injection h' with _ ht
  exact hne ht
theorem Blk.range (h : Blk w g t cs) (o n : Nat) : w.rangeAt g o ((cs.drop o).take n) := fun j v hv => by
  rw [h.cell]
  rw [List.getElem?_take] at hv
  split at hv
  · rw [← hv, List.getElem?_drop]
  · cases hv
theorem Blk.all (h : Blk w g t cs) : w.rangeAt g 0 cs := fun j v hv => by
  rw [h.cell, Nat.zero_add]
  exact hv
theorem Blk.there (h : Blk w g t cs) (o n : Nat) (hn : o + n ≤ cs.length) : w.there g o n := fun j hj => by
  rw [h.cell, h.frozen, List.getElem?_eq_getElem (by omega)]
  exact ⟨rfl, rfl⟩
theorem Blk.setRow (h : Blk w g t cs) (c : List Value) : Blk (w.setRow g c.toArray) g t c := setRow_heap w g cs.toArray c.toArray t _ h
end

/-- Only block g, and what is new, has turned. -/
theorem only_drewN {a w : World} {row : Option Nat} (h : a.grownBy w row) (n : Nat) : a.grownBy (w.drewN n) row := ⟨h.os, h.tape, h.output, h.size, h.block⟩
theorem only_setCell {a w : World} {g : Nat} (h : a.grownBy w (some g)) {p : Addr} (hp : p.block = g ∨ a.heap.size ≤ p.block) (u : Value) : a.grownBy (w.setCell p u) (some g) :=
  ⟨h.os, h.tape, h.output, by simpa [World.setCell] using h.size, fun i hi hne => (Below.heap_setCell w p u i (by
    rintro rfl
    rcases hp with hp | hp
    · exact hne (by rw [hp])
    · omega)).trans (h.block i hi hne)⟩
theorem only_setRow {a w : World} {g : Nat} (h : a.grownBy w (some g)) (c : Array Value) : a.grownBy (w.setRow g c) (some g) :=
  ⟨h.os, h.tape, h.output, by simpa using h.size, fun i hi hne => (setRow_other w g i c (by rintro rfl; exact hne rfl)).trans (h.block i hi hne)⟩
theorem only_below {a w w1 : World} {g : Nat} (h : a.grownBy w (some g)) (hb : Below w.heap.size w w1) : a.grownBy w1 (some g) :=
  ⟨hb.os.trans h.os, hb.tape.trans h.tape, hb.output.trans h.output, Nat.le_trans h.size hb.size, fun i hi hn => (hb.block i (Nat.lt_of_lt_of_le hi h.size)).trans (h.block i hi hn)⟩
theorem only_trans {a b c : World} {g : Nat} (h : a.grownBy b (some g)) (k : b.grownBy c (some g)) : a.grownBy c (some g) := h.trans k
theorem below_drewN {B : Nat} {a w : World} (h : Below B a w) (n : Nat) : Below B a (w.drewN n) := ⟨h.os, h.tape, h.output, h.size, h.block⟩
theorem only_up {a w : World} {g : Nat} (h : a.grownBy w (some g)) {B : Nat} (hB : B ≤ g) (hs : B ≤ a.heap.size) : Below B a w :=
  ⟨h.os, h.tape, h.output, h.size, fun i hi => h.block i (by omega) (fun e => by injection e; omega)⟩
theorem only_refl (w : World) (g : Option Nat) : w.grownBy w g := World.grownBy.refl w g
end Go.Proofs.YtkonokjhpddbfaaDoor
namespace Go.Proofs.YtkonokjhpddbfaaDoor
open Go.RowKit
set_option linter.unusedVariables false

/-- A plan so far: the words that are there, and zeros. -/
def planCells (W : List Nat) : List Value := w32 (W ++ List.replicate (64 - W.length) 0)

theorem plan_get (W : List Nat) (k : Nat) (hk : k < W.length) : (planCells W)[k]? = some (.int .u32 ((W.getD k 0 : Nat) : Int)) := by
  unfold planCells
  rw [w32_get _ _ (by simp; omega)]
  simp [List.getD, List.getElem?_append_left hk]

theorem plan_next (W : List Nat) (k : Nat) (hk : W.length = k) (h : k < 64) : (planCells W)[k]? = some (.int .u32 0) := by
  unfold planCells
  rw [w32_get _ _ (by simp; omega)]
  rw [List.getD, List.getElem?_append_right (by omega), List.getElem?_replicate, if_pos (by omega)]
  rfl

theorem plan_set (W : List Nat) (k x : Nat) (hk : W.length = k) (h : k < 64) : (planCells W).set k (.int .u32 (x : Int)) = planCells (W ++ [x]) := by
  subst hk
  unfold planCells w32
  have e : 64 - W.length = (64 - (W ++ [x]).length) + 1 := by simp; omega
  rw [e, List.replicate_succ, List.map_append, List.map_append, List.map_append, List.map_cons, List.set_append_right _ _ (by simp)]
  simp

theorem plan_whole (W : List Nat) (h : W.length = 64) : planCells W = w32 W := by simp [planCells, h]

theorem word_num (x0 x1 x2 x3 : Nat) (h0 : x0 < 256) (h1 : x1 < 256) (h2 : x2 < 256) (h3 : x3 < 256) :
    bits .or .u32 (bits .or .u32 (bits .or .u32 ((x0 : Int) * 16777216) ((x1 : Int) * 65536)) ((x2 : Int) * 256)) (x3 : Int) = ((x0 * 16777216 + x1 * 65536 + x2 * 256 + x3 : Nat) : Int) := by
  have e0 : (x0 : Int) * 16777216 = ((x0 * 16777216 : Nat) : Int) := by simp
  have e1 : (x1 : Int) * 65536 = ((x1 * 65536 : Nat) : Int) := by simp
  have e2 : (x2 : Int) * 256 = ((x2 * 256 : Nat) : Int) := by simp
  rw [e0, e1, e2, u32_or_nat _ _ (by omega) (by omega), nat_join 24 (x0 * 16777216) (x1 * 65536) (by omega) (by omega), u32_or_nat _ _ (by omega) (by omega), nat_join 16 _ (x2 * 256) (by omega) (by omega), u32_or_nat _ _ (by omega) (by omega), nat_join 8 _ x3 (by omega) (by omega)]

def zplan : Array Value := #[.int .u32 0, .int .u32 0, .int .u32 0, .int .u32 0, .int .u32 0, .int .u32 0, .int .u32 0, .int .u32 0, .int .u32 0, .int .u32 0, .int .u32 0, .int .u32 0, .int .u32 0, .int .u32 0, .int .u32 0, .int .u32 0, .int .u32 0, .int .u32 0, .int .u32 0, .int .u32 0, .int .u32 0, .int .u32 0, .int .u32 0, .int .u32 0, .int .u32 0, .int .u32 0, .int .u32 0, .int .u32 0, .int .u32 0, .int .u32 0, .int .u32 0, .int .u32 0, .int .u32 0, .int .u32 0, .int .u32 0, .int .u32 0, .int .u32 0, .int .u32 0, .int .u32 0, .int .u32 0, .int .u32 0, .int .u32 0, .int .u32 0, .int .u32 0, .int .u32 0, .int .u32 0, .int .u32 0, .int .u32 0, .int .u32 0, .int .u32 0, .int .u32 0, .int .u32 0, .int .u32 0, .int .u32 0, .int .u32 0, .int .u32 0, .int .u32 0, .int .u32 0, .int .u32 0, .int .u32 0, .int .u32 0, .int .u32 0, .int .u32 0, .int .u32 0]
theorem zplan_eq : (planCells []).toArray = zplan := by kernel_rfl

theorem sgA_num (x : Nat) (hx : x < 4294967296) : bits .xor .u32 (bits .xor .u32 ((rotr 7 x : Nat) : Int) ((rotr 18 x : Nat) : Int)) ((x : Int) / 8) = ((sgA x : Nat) : Int) := by
  have h1 := rotr_lt 7 x (by omega) hx
  have h2 := rotr_lt 18 x (by omega) hx
  have e : (x : Int) / 8 = ((x / 8 : Nat) : Int) := by simp
  rw [e, u32_xor_nat _ _ h1 h2, u32_xor_nat _ _ (xor_lt h1 h2) (by omega)]
  rfl
theorem sgB_num (x : Nat) (hx : x < 4294967296) : bits .xor .u32 (bits .xor .u32 ((rotr 17 x : Nat) : Int) ((rotr 19 x : Nat) : Int)) ((x : Int) / 1024) = ((sgB x : Nat) : Int) := by
  have h1 := rotr_lt 17 x (by omega) hx
  have h2 := rotr_lt 19 x (by omega) hx
  have e : (x : Int) / 1024 = ((x / 1024 : Nat) : Int) := by simp
  rw [e, u32_xor_nat _ _ h1 h2, u32_xor_nat _ _ (xor_lt h1 h2) (by omega)]
  rfl

theorem info74 : (Tryd.prog.info? 174).map (·.size) = some 64 := by kernel_rfl

set_option maxRecDepth 100000 in
set_option maxHeartbeats 2000000 in
theorem spread_any (bs : List Nat) (w : World) (HL : Hid (bs.length = 64)) (HB : Hid (∀ x ∈ bs, x < 256)) :
    Calls Tryd.prog 110 #[.agg (w8 bs).toArray] w fun e w' => e = .returned (.agg (w32 (sched bs 64)).toArray) ∧ Below w.heap.size w w' := by
  go_enter Tryd.func110, Tryd.ntmps110
  go_wp2_with fail
  go_loopw [11] (fun i wr => ∃ (k : Nat), k ≤ 16 ∧ i = .int .i64 k ∧ Hid (Blk wr w.heap.size 167 (w8 bs)) ∧ Hid (Blk wr (w.heap.size + 1) 174 (planCells [])) ∧ Hid (Blk wr (w.heap.size + 1 + 1) 174 (planCells (sched bs k))) ∧ Hid (Below w.heap.size w wr)) (fun i _ => 16 - (intOf i).toNat)
  case atStart =>
    refine ⟨0, Nat.zero_le _, rfl, Lib.hid ?_, Lib.hid ?_, Lib.hid ?_, Lib.hid ?_⟩
    · exact ((Blk.new w 167 (w8 bs)).alloc _).alloc _
    · have h := (Blk.new (w.alloc (.cells (w8 bs).toArray 167)) 174 (planCells [])).alloc (.cells (planCells []).toArray 174)
      rw [zplan_eq] at h
      simp only [World.size_alloc] at h
      exact h
    · have h := Blk.new ((w.alloc (.cells (w8 bs).toArray 167)).alloc (.cells (planCells []).toArray 174)) 174 (planCells [])
      rw [zplan_eq] at h
      simp only [World.size_alloc] at h
      exact h
    · exact (((Below.refl _ _).alloc (Nat.le_refl _) _).alloc (by simp) _).alloc (by simp; omega) _
  case round =>
    obtain ⟨k, hk, rfl, H0, H1, H2, HW⟩ := hrel
    by_cases hlt : k < 16
    · have c0 := H0.out.cell (4 * k)
      have c1 := H0.out.cell (4 * k + 1)
      have c2 := H0.out.cell (4 * k + 2)
      have c3 := H0.out.cell (4 * k + 3)
      rw [w8_get bs _ (by rw [HL.out]; omega)] at c0 c1 c2 c3
      obtain ⟨x0, e0⟩ : ∃ x, bs.getD (4 * k) 0 = x := ⟨_, rfl⟩
      obtain ⟨x1, e1⟩ : ∃ x, bs.getD (4 * k + 1) 0 = x := ⟨_, rfl⟩
      obtain ⟨x2, e2⟩ : ∃ x, bs.getD (4 * k + 2) 0 = x := ⟨_, rfl⟩
      obtain ⟨x3, e3⟩ : ∃ x, bs.getD (4 * k + 3) 0 = x := ⟨_, rfl⟩
      have l0 := getD_lt (by omega) HB.out (4 * k)
      have l1 := getD_lt (by omega) HB.out (4 * k + 1)
      have l2 := getD_lt (by omega) HB.out (4 * k + 2)
      have l3 := getD_lt (by omega) HB.out (4 * k + 3)
      rw [e0] at c0 l0
      rw [e1] at c1 l1
      rw [e2] at c2 l2
      rw [e3] at c3 l3
      have HE : Hid (sched bs (k + 1) = sched bs k ++ [x0 * 16777216 + x1 * 65536 + x2 * 256 + x3]) := Lib.hid (by
        simp only [sched, nextW, if_pos hlt, word, e0, e1, e2, e3])
      have HN := Lib.hid (word_num x0 x1 x2 x3 l0 l1 l2 l3)
      have i0 : (4 : Int) * (k : Int) ≤ 60 := by omega
      have i1 : (0 : Int) ≤ (k : Int) := by omega
      have i2 : (k : Int) < 16 := by omega
      have hf := H2.out.frozen k
      have hc := H2.out.cell k
      rw [plan_next _ k (sched_length bs k) (by omega)] at hc
      clear e0 e1 e2 e3
      go_wp2_with fail
      go_region
      go_wp2
      go_roundw
      case rel =>
        refine ⟨k + 1, by omega, by go_num, Lib.hid ?_, Lib.hid ?_, Lib.hid ?_, Lib.hid ?_⟩
        · exact H0.out.far (by simp; omega) _
        · exact H1.out.far (by simp) _
        · rw [HN.out]
          have h := H2.out.set_ k (.int .u32 ((x0 * 16777216 + x1 * 65536 + x2 * 256 + x3 : Nat) : Int))
          rw [plan_set _ k _ (sched_length bs k) (by omega), ← HE.out] at h
          exact h
        · exact (HW.out.setCell (by simp; omega) _).drew
      case measure => simp [intOf]; omega
    · obtain rfl : k = 16 := by omega
      rw [show ((16 : Nat) : Int) = 16 from rfl]
      go_wp2_with fail
      go_loopw [6] (fun i wq => ∃ (j : Nat), j ≤ 48 ∧ i = .int .i64 ((j : Int) + 16) ∧ Hid (Blk wq (w.heap.size + 1) 174 (planCells [])) ∧ Hid (Blk wq (w.heap.size + 1 + 1) 174 (planCells (sched bs (j + 16)))) ∧ Hid (Below w.heap.size w wq)) (fun i _ => 64 - (intOf i).toNat)
      case atStart => exact ⟨0, Nat.zero_le _, rfl, H1, H2, HW⟩
      case round =>
        obtain ⟨j, hj, rfl, H1', H2', HW'⟩ := hrel
        by_cases hlt2 : j < 48
        · have c0 := H2'.out.cell j
          have c1 := H2'.out.cell (j + 1)
          have c2 := H2'.out.cell (j + 9)
          have c3 := H2'.out.cell (j + 14)
          have hsl := sched_length bs (j + 16)
          rw [plan_get _ _ (by omega)] at c0 c1 c2 c3
          have hsb := sched_lt bs HB.out (j + 16)
          obtain ⟨x0, e0⟩ : ∃ x, (sched bs (j + 16)).getD j 0 = x := ⟨_, rfl⟩
          obtain ⟨x1, e1⟩ : ∃ x, (sched bs (j + 16)).getD (j + 1) 0 = x := ⟨_, rfl⟩
          obtain ⟨x2, e2⟩ : ∃ x, (sched bs (j + 16)).getD (j + 9) 0 = x := ⟨_, rfl⟩
          obtain ⟨x3, e3⟩ : ∃ x, (sched bs (j + 16)).getD (j + 14) 0 = x := ⟨_, rfl⟩
          have l0 := getD_lt (by omega) hsb j
          have l1 := getD_lt (by omega) hsb (j + 1)
          have l2 := getD_lt (by omega) hsb (j + 9)
          have l3 := getD_lt (by omega) hsb (j + 14)
          rw [e0] at c0 l0
          rw [e1] at c1 l1
          rw [e2] at c2 l2
          rw [e3] at c3 l3
          have HE : Hid (sched bs (j + 16 + 1) = sched bs (j + 16) ++ [(x0 + sgA x1 + x2 + sgB x3) % 4294967296]) := Lib.hid (by
            show sched bs (j + 16) ++ [nextW bs (sched bs (j + 16)) (j + 16)] = _
            rw [nextW, if_neg (by omega), more, show j + 16 - 16 = j by omega, show j + 16 - 15 = j + 1 by omega, show j + 16 - 7 = j + 9 by omega, show j + 16 - 2 = j + 14 by omega, e0, e1, e2, e3])
          have i0 : (0 : Int) ≤ (j : Int) := by omega
          have i1 : (j : Int) < 48 := by omega
          have hf := H2'.out.frozen (j + 16)
          have hc := H2'.out.cell (j + 16)
          rw [plan_next _ (j + 16) hsl (by omega)] at hc
          clear e0 e1 e2 e3 hsl hsb
          go_wp2_with fail
          go_quiet (fail)
          go_wp2_with fail
          ((with_reducible refine (turn7 x1 _ l1).mono ?_))
          rintro e w' ⟨rfl, rfl⟩
          go_wp2_with fail
          ((with_reducible refine (turn18 x1 _ l1).mono ?_))
          rintro e w' ⟨rfl, rfl⟩
          go_wp2_with fail
          ((with_reducible refine (turn17 x3 _ l3).mono ?_))
          rintro e w' ⟨rfl, rfl⟩
          go_wp2_with fail
          ((with_reducible refine (turn19 x3 _ l3).mono ?_))
          rintro e w' ⟨rfl, rfl⟩
          go_wp2_with fail
          go_region
          go_wp2
          go_roundw
          case rel =>
            refine ⟨j + 1, by omega, by go_num, Lib.hid ?_, Lib.hid ?_, Lib.hid ?_⟩
            · exact (H1'.out.drewN _).far (by simp) _
            · rw [sgA_num x1 l1, sgB_num x3 l3]
              have h := (H2'.out.drewN (nq + 1)).set_ (j + 16) (.int .u32 (((x0 + sgA x1 + x2 + sgB x3) % 4294967296 : Nat) : Int))
              rw [plan_set _ (j + 16) _ (sched_length bs (j + 16)) (by omega), ← HE.out, show j + 16 + 1 = j + 1 + 16 by omega] at h
              simp only [Int.natCast_emod, Int.natCast_add] at h
              exact h
            · exact (below_drewN HW'.out _).setCell (by show w.heap.size ≤ w.heap.size + 1 + 1; omega) _
          case measure => simp [intOf]; omega
        · obtain rfl : j = 48 := by omega
          have HS := Lib.hid (plan_whole (sched bs 64) (sched_length bs 64))
          have H3 : Hid (Blk wr (w.heap.size + 1 + 1) 174 (w32 (sched bs 64))) := Lib.hid (by rw [← HS.out]; exact H2'.out)
          have HR := Lib.hid H3.out.all
          have HI : Hid ((Tryd.prog.info? 174).map (·.size) = some (w32 (sched bs 64)).length) := Lib.hid (by rw [w32_length, sched_length]; exact info74)
          have HI2 : Hid ((Tryd.prog.info? 174).map (·.size) = some (w32 (sched bs 64)).toArray.size) := Lib.hid (by rw [List.size_toArray, w32_length, sched_length]; exact info74)
          have HZ : Hid ((planCells []).toArray.size = (w32 (sched bs 64)).toArray.size) := Lib.hid (by simp [w32_length, sched_length, planCells])
          have HO := Lib.hid (all_oneCell_toArray (w32_one (sched bs 64)))
          clear HS
          go_wp2_with (first | (refine wpList_load_mid rfl 174 (.tmp 3) rfl (w.heap.size + 1 + 1) 0 rfl (w32 (sched bs 64)) _ HR.out Tryd.underlying174 rfl HI.out ?_) | (refine wpList_store_row rfl 174 (.tmp 2) (.tmp 87) rfl (w.heap.size + 1) (w32 (sched bs 64)).toArray rfl rfl 174 _ H1'.out HI2.out HZ.out HO.out ?_))
          exact bodyPost_ret (v := .agg (w32 (sched bs 64)).toArray) (results_cell_row Tryd.results110 _ _ (w.heap.size + 1) 174 (w32 (sched bs 64)).toArray (0, 0) _ rfl (H1'.out.setRow _) Tryd.underlying174 rfl HI2.out) rfl ⟨rfl, below_setRow HW'.out (by omega) _⟩
end Go.Proofs.YtkonokjhpddbfaaDoor
namespace Go.Proofs.YtkonokjhpddbfaaDoor
open Go.RowKit
set_option linter.unusedVariables false

/-- A mill's cells: its words, its block, how many bytes came. -/
def millCells (ws bs : List Nat) (n : Nat) : List Value := w32 ws ++ (w8 bs ++ [.int .u64 (n : Int)])

theorem mill_length (ws bs : List Nat) (n : Nat) (h1 : ws.length = 8) (h2 : bs.length = 64) : (millCells ws bs n).length = 73 := by simp [millCells, w32_length, w8_length, h1, h2]
theorem mill_word (ws bs : List Nat) (n i : Nat) (h1 : ws.length = 8) (h : i < 8) : (millCells ws bs n)[i]? = some (.int .u32 ((ws.getD i 0 : Nat) : Int)) := by
  unfold millCells
  rw [List.getElem?_append_left (by rw [w32_length]; omega), w32_get _ _ (by omega)]
theorem mill_many (ws bs : List Nat) (n : Nat) (h1 : ws.length = 8) (h2 : bs.length = 64) : (millCells ws bs n)[72]? = some (.int .u64 (n : Int)) := by
  unfold millCells
  rw [List.getElem?_append_right (by rw [w32_length]; omega), List.getElem?_append_right (by rw [w32_length, w8_length]; omega), w32_length, w8_length, h1, h2]
  rfl
theorem mill_block (ws bs : List Nat) (n : Nat) (h1 : ws.length = 8) (h2 : bs.length = 64) : ((millCells ws bs n).drop 8).take 64 = w8 bs := by
  unfold millCells
  rw [List.drop_left' (by rw [w32_length, h1]), List.take_left' (by rw [w8_length, h2])]
theorem mill_set (ws bs : List Nat) (n i x : Nat) (h1 : ws.length = 8) (h : i < 8) : (millCells ws bs n).set i (.int .u32 (x : Int)) = millCells (ws.set i x) bs n := by
  unfold millCells
  rw [List.set_append_left _ _ (by rw [w32_length]; omega)]
  simp [w32, List.map_set]

/-- A row of numbers at a place. -/
theorem run_index_row {t e n : Nat} {i0 : TypeInfo} {k : IntKind} (ht : Tryd.prog.underlying t = some (.array n e)) (hi : Tryd.prog.info? e = some i0) (hz : i0.size = 1) (he : Tryd.prog.underlying e = some (.int k)) (cs : List Value) (i : Nat) (v : Value) (hv : cs[i]? = some v) (hin : i < n) (w : World) :
    (Instr.index t (.agg cs.toArray) (.int .i64 (i : Int))).run Tryd.prog w = .ok v w := by
  simp [Instr.index, asIntOf, run_underlying ht, part, isAgg, run_underlying he, sizeOf, typeInfo, hi, hz, hv, hin]

theorem info61 : (Tryd.prog.info? 38).map (fun i => (i.zero, i.size, i.bytes)) = some (some (.int .u32 0), 1, 4) := by kernel_rfl
theorem info63 : (Tryd.prog.info? 167).map (·.size) = some 64 := by kernel_rfl

theorem index_plan (W : List Nat) (i : Nat) (h : i < W.length) (hw : W.length = 64) (w : World) : (Instr.index 174 (.agg (w32 W).toArray) (.int .i64 (i : Int))).run Tryd.prog w = .ok (.int .u32 ((W.getD i 0 : Nat) : Int)) w := by
  obtain ⟨i0, hi, hz0, hz1, hz2⟩ := info_parts info61
  exact run_index_row Tryd.underlying174 hi hz1 Tryd.underlying38 _ i _ (w32_get W i h) (by omega) w

/-- The constants lie where they should. -/
def Tab (w : World) : Prop := w.rangeAt 0 0 (w32 kws)

theorem Tab.at {w : World} (h : Tab w) (i : Nat) (hi : i < 64) : w.cell? ⟨0, i, none⟩ = some (.int .u32 ((kws.getD i 0 : Nat) : Int)) := by
  have := h i _ (w32_get kws i (by show i < 64; exact hi))
  simpa using this

/-- Where the rounds stand. -/
def Stands (bs ws : List Nat) (k y0 y1 y2 y3 y4 y5 y6 y7 : Nat) : Prop := runs kws (sched bs 64) (stOf ws) k = ⟨y0, y1, y2, y3, y4, y5, y6, y7⟩

theorem Stands.ok {bs ws : List Nat} {k y0 y1 y2 y3 y4 y5 y6 y7 : Nat} (h : Stands bs ws k y0 y1 y2 y3 y4 y5 y6 y7) (hw : ∀ x ∈ ws, x < 4294967296) : (⟨y0, y1, y2, y3, y4, y5, y6, y7⟩ : St).Ok := by
  have := runs_ok kws (sched bs 64) (stOf ws) (stOf_ok ws hw) k
  rw [h] at this
  exact this

theorem Stands.next {bs ws : List Nat} {k y0 y1 y2 y3 y4 y5 y6 y7 x c : Nat} (h : Stands bs ws k y0 y1 y2 y3 y4 y5 y6 y7) (hx : (sched bs 64).getD k 0 = x) (hc : kws.getD k 0 = c) :
    Stands bs ws (k + 1) ((fst ⟨y0, y1, y2, y3, y4, y5, y6, y7⟩ c x + bgA y0 + maj y0 y1 y2) % 4294967296) y0 y1 y2 ((y3 + fst ⟨y0, y1, y2, y3, y4, y5, y6, y7⟩ c x) % 4294967296) y4 y5 y6 := by
  unfold Stands at *
  rw [runs, h, hx, hc]
  rfl

theorem bgE_num (x : Nat) (hx : x < 4294967296) : bits .xor .u32 (bits .xor .u32 ((rotr 6 x : Nat) : Int) ((rotr 11 x : Nat) : Int)) ((rotr 25 x : Nat) : Int) = ((bgE x : Nat) : Int) := by
  have h1 := rotr_lt 6 x (by omega) hx
  have h2 := rotr_lt 11 x (by omega) hx
  have h3 := rotr_lt 25 x (by omega) hx
  rw [u32_xor_nat _ _ h1 h2, u32_xor_nat _ _ (xor_lt h1 h2) h3]
  rfl
theorem bgA_num (x : Nat) (hx : x < 4294967296) : bits .xor .u32 (bits .xor .u32 ((rotr 2 x : Nat) : Int) ((rotr 13 x : Nat) : Int)) ((rotr 22 x : Nat) : Int) = ((bgA x : Nat) : Int) := by
  have h1 := rotr_lt 2 x (by omega) hx
  have h2 := rotr_lt 13 x (by omega) hx
  have h3 := rotr_lt 22 x (by omega) hx
  rw [u32_xor_nat _ _ h1 h2, u32_xor_nat _ _ (xor_lt h1 h2) h3]
  rfl
theorem maj_num (a b c : Nat) (ha : a < 4294967296) (hb : b < 4294967296) (hc : c < 4294967296) : bits .xor .u32 (bits .xor .u32 (bits .and .u32 (a : Int) (b : Int)) (bits .and .u32 (a : Int) (c : Int))) (bits .and .u32 (b : Int) (c : Int)) = ((maj a b c : Nat) : Int) := by
  rw [u32_and_nat _ _ ha hb, u32_and_nat _ _ ha hc, u32_and_nat _ _ hb hc, u32_xor_nat _ _ (and_lt hb) (and_lt hc), u32_xor_nat _ _ (xor_lt (and_lt hb) (and_lt hc)) (and_lt hc)]
  rfl

theorem not_num (e : Nat) (he : e < 4294967296) : 4294967295 ^^^ e = 4294967295 - e := by
  have h1 : (BitVec.allOnes 32 ^^^ BitVec.ofNat 32 e).toNat = (~~~ (BitVec.ofNat 32 e)).toNat := by rw [BitVec.allOnes_xor]
  rw [BitVec.toNat_xor, BitVec.toNat_not, BitVec.toNat_allOnes, BitVec.toNat_ofNat, Nat.mod_eq_of_lt (by omega)] at h1
  exact h1

theorem chs_num (e f g : Nat) (he : e < 4294967296) (hf : f < 4294967296) (hg : g < 4294967296) :
    bits .xor .u32 (bits .and .u32 (e : Int) (f : Int)) (bits .and .u32 (bits .xor .u32 (if IntKind.u32.signed = true then -1 else IntKind.u32.max) (e : Int)) (g : Int)) = ((chs e f g : Nat) : Int) := by
  have hm : (if IntKind.u32.signed = true then -1 else IntKind.u32.max) = ((4294967295 : Nat) : Int) := by decide
  rw [hm, u32_xor_nat _ _ (by omega) he, not_num e he, u32_and_nat _ _ he hf, u32_and_nat _ _ (by omega) hg, u32_xor_nat _ _ (and_lt hf) (and_lt hg)]
  rfl

theorem first_num (z3 a b c d e f g : Nat) : (((a : Int) + (b : Int) + (c : Int) + (d : Int) + (e : Int) + (f : Int)) % 4294967296 + (g : Int)) % 4294967296 = (((((a + b + c + d + e) % 4294967296 + f + g) % 4294967296 : Nat)) : Int) := by omega
theorem fifth_num (z3 a b c d e : Nat) : ((z3 : Int) + ((a : Int) + (b : Int) + (c : Int) + (d : Int) + (e : Int)) % 4294967296) % 4294967296 = (((z3 + (a + b + c + d + e) % 4294967296) % 4294967296 : Nat) : Int) := by omega
/-- The words, as far as they are brought in. -/
def part (ws vs : List Nat) (k : Nat) : List Nat := (addw ws vs).take k ++ ws.drop k
theorem part_length (ws vs : List Nat) (k : Nat) (h : ws.length = 8) (hv : vs.length = 8) (hk : k ≤ 8) : (part ws vs k).length = 8 := by simp [part, addw, h, hv]; omega
theorem part_get (ws vs : List Nat) (k : Nat) (h : ws.length = 8) (hv : vs.length = 8) (hk : k < 8) : (part ws vs k).getD k 0 = ws.getD k 0 := by
  unfold part
  rw [List.getD, List.getElem?_append_right (by simp [addw, h, hv]; omega)]
  have : k - ((addw ws vs).take k).length = 0 := by simp [addw, h, hv]; omega
  rw [this, List.getElem?_drop]
  simp [List.getD]
theorem part_set (ws vs : List Nat) (k : Nat) (h : ws.length = 8) (hv : vs.length = 8) (hk : k < 8) : (part ws vs k).set k ((ws.getD k 0 + vs.getD k 0) % 4294967296) = part ws vs (k + 1) := by
  have hl : (addw ws vs).length = 8 := by simp [addw, h, hv]
  have e : (addw ws vs)[k]'(by omega) = (ws.getD k 0 + vs.getD k 0) % 4294967296 := by
    simp [addw, List.getD, h, hv, hk]
  unfold part
  rw [List.set_append_right _ _ (by simp [hl]; omega), List.take_succ_eq_append_getElem (by omega), e, List.drop_eq_getElem_cons (by omega : k < ws.length)]
  have : k - ((addw ws vs).take k).length = 0 := by simp [hl]; omega
  rw [this, List.set_cons_zero, List.append_assoc]
  rfl
theorem part_end (ws vs : List Nat) (h : ws.length = 8) (hv : vs.length = 8) : part ws vs 8 = addw ws vs := by
  unfold part
  rw [List.drop_eq_nil_of_le (by omega), List.take_of_length_le (by simp [addw, h, hv])]
  simp

theorem index_eight (W : List Nat) (i : Nat) (h : i < 8) (hw : W.length = 8) (w : World) : (Instr.index 166 (.agg (w32 W).toArray) (.int .i64 (i : Int))).run Tryd.prog w = .ok (.int .u32 ((W.getD i 0 : Nat) : Int)) w := by
  obtain ⟨i0, hi, hz0, hz1, hz2⟩ := info_parts info61
  exact run_index_row Tryd.underlying166 hi hz1 Tryd.underlying38 _ i _ (w32_get W i (by omega)) h w

theorem Stands.end_ {bs ws : List Nat} {y0 y1 y2 y3 y4 y5 y6 y7 : Nat} (h : Stands bs ws 64 y0 y1 y2 y3 y4 y5 y6 y7) : comp ws bs = addw ws [y0, y1, y2, y3, y4, y5, y6, y7] := by
  unfold comp
  rw [h]
  rfl

set_option maxRecDepth 100000 in
set_option maxHeartbeats 4000000 in
theorem grind_any (b n : Nat) (ws bs : List Nat) (w : World) (HM : Hid (Blk w b 169 (millCells ws bs n))) (HT : Hid (Tab w)) (hb : b ≠ 0) (H8 : Hid (ws.length = 8)) (HL : Hid (bs.length = 64)) (HB : Hid (∀ x ∈ bs, x < 256)) (HW : Hid (∀ x ∈ ws, x < 4294967296)) :
    Calls Tryd.prog 109 #[.pointer (some ⟨b, 0, none⟩)] w fun e w' => e = .returned (.tuple #[]) ∧ Blk w' b 169 (millCells (comp ws bs) bs n) ∧ w.grownBy w' (some b) := by
  have HR : Hid (w.rangeAt b 8 (w8 bs)) := Lib.hid (by have := HM.out.range 8 64; rw [mill_block ws bs n H8.out HL.out] at this; exact this)
  have HI : Hid ((Tryd.prog.info? 167).map (·.size) = some (w8 bs).length) := Lib.hid (by rw [w8_length, HL.out]; exact info63)
  have HS : Hid ((Tryd.prog.info? 174).map (·.size) = some (w32 (sched bs 64)).toArray.size) := Lib.hid (by rw [List.size_toArray, w32_length, sched_length]; exact info74)
  have HO := Lib.hid (all_oneCell_toArray (w32_one (sched bs 64)))
  have HZ : Hid (zplan.size = (w32 (sched bs 64)).toArray.size) := Lib.hid (by simp [w32_length, sched_length, zplan])
  have HI2 : Hid ((Tryd.prog.info? 174).map (·.size) = some (w32 (sched bs 64)).length) := Lib.hid (by rw [w32_length, sched_length]; exact info74)
  go_enter Tryd.func109, Tryd.ntmps109
  go_wp2_with (first | (refine wpList_load_mid rfl 167 (.tmp 22) rfl b 8 rfl (w8 bs) _ HR.out Tryd.underlying167 rfl HI.out ?_))
  refine (spread_any bs _ HL HB).mono ?_
  rintro e w1 ⟨rfl, hB1⟩
  have HB1 := Lib.hid hB1
  have HLA := Lib.hid (heap_alloc_last w1 (.cells zplan 174))
  clear hB1
  go_wp2_with (first | (refine wpList_store_row rfl 174 (.tmp 2) (.tmp 24) rfl w1.heap.size (w32 (sched bs 64)).toArray rfl rfl 174 _ HLA.out HS.out HZ.out HO.out ?_; rw [World.setRow_alloc_new]))
  have HBN := Lib.hid (HB1.out.alloc HB1.out.size (.cells (w32 (sched bs 64)).toArray 174))
  have HP := Lib.hid (Blk.new w1 174 (w32 (sched bs 64)))
  obtain ⟨w2, hw2⟩ : ∃ w2, w1.alloc (.cells (w32 (sched bs 64)).toArray 174) = w2 := ⟨_, rfl⟩
  rw [hw2] at HBN HP ⊢
  clear hw2
  have hm2 := HM.out.below HBN.out HM.out.lt
  have c0 := hm2.cell 0
  have c1 := hm2.cell 1
  have c2 := hm2.cell 2
  have c3 := hm2.cell 3
  have c4 := hm2.cell 4
  have c5 := hm2.cell 5
  have c6 := hm2.cell 6
  have c7 := hm2.cell 7
  rw [mill_word _ _ _ _ H8.out (by omega)] at c0 c1 c2 c3 c4 c5 c6 c7
  have hst : Stands bs ws 0 (ws.getD 0 0) (ws.getD 1 0) (ws.getD 2 0) (ws.getD 3 0) (ws.getD 4 0) (ws.getD 5 0) (ws.getD 6 0) (ws.getD 7 0) := rfl
  generalize ws.getD 0 0 = y0 at *
  generalize ws.getD 1 0 = y1 at *
  generalize ws.getD 2 0 = y2 at *
  generalize ws.getD 3 0 = y3 at *
  generalize ws.getD 4 0 = y4 at *
  generalize ws.getD 5 0 = y5 at *
  generalize ws.getD 6 0 = y6 at *
  generalize ws.getD 7 0 = y7 at *
  have HST := Lib.hid hst
  clear hst
  have HM2 := Lib.hid hm2
  have HT2 : Hid (Tab w2) := Lib.hid fun j v hv => by
    rw [HBN.out.cell (p := ⟨0, 0 + j, none⟩) (World.block_lt_of_cell? w _ (HT.out j v hv))]
    exact HT.out j v hv
  have HPR := Lib.hid HP.out.all
  clear hm2
  go_quiet (fail)
  go_wp2_with fail
  go_quiet (fail)
  go_wp2_with (first | (refine wpList_load_mid rfl 174 (.tmp 2) rfl w1.heap.size 0 rfl (w32 (sched bs 64)) _ HPR.out Tryd.underlying174 rfl HI2.out ?_))
  go_loop [66, 3, 4, 5, 6, 7, 8, 9, 10] (fun i v0 v1 v2 v3 v4 v5 v6 v7 => ∃ (k z0 z1 z2 z3 z4 z5 z6 z7 : Nat), k ≤ 64 ∧ i = .int .i64 k ∧ v0 = .int .u32 z0 ∧ v1 = .int .u32 z1 ∧ v2 = .int .u32 z2 ∧ v3 = .int .u32 z3 ∧ v4 = .int .u32 z4 ∧ v5 = .int .u32 z5 ∧ v6 = .int .u32 z6 ∧ v7 = .int .u32 z7 ∧ Hid (Stands bs ws k z0 z1 z2 z3 z4 z5 z6 z7)) (fun i _ _ _ _ _ _ _ _ => 64 - (intOf i).toNat)
  case atStart => exact ⟨0, y0, y1, y2, y3, y4, y5, y6, y7, Nat.zero_le _, rfl, rfl, rfl, rfl, rfl, rfl, rfl, rfl, rfl, HST⟩
  case round =>
    obtain ⟨k, z0, z1, z2, z3, z4, z5, z6, z7, hk, rfl, rfl, rfl, rfl, rfl, rfl, rfl, rfl, rfl, HK⟩ := hrel
    clear c0 c1 c2 c3 c4 c5 c6 c7
    by_cases hlt : k < 64
    · obtain ⟨l0, l1, l2, l3, l4, l5, l6, l7⟩ := HK.out.ok HW.out
      simp only at l0 l1 l2 l3 l4 l5 l6 l7
      have hcg := HT2.out.at k hlt
      have hix := fun W => index_plan (sched bs 64) k (by rw [sched_length]; exact hlt) (sched_length bs 64) W
      obtain ⟨x, hx⟩ : ∃ x, (sched bs 64).getD k 0 = x := ⟨_, rfl⟩
      obtain ⟨c, hc⟩ : ∃ c, kws.getD k 0 = c := ⟨_, rfl⟩
      have HN := Lib.hid (HK.out.next hx hc)
      rw [hc] at hcg
      simp only [hx] at hix
      have lc : c < 4294967296 := by rw [← hc]; exact getD_lt (by omega) kws_lt k
      have lx : x < 4294967296 := by rw [← hx]; exact getD_lt (by omega) (sched_lt bs HB.out 64) k
      have i0 : (0 : Int) ≤ (k : Int) := by omega
      have i1 : (k : Int) < 64 := by omega
      clear hx hc
      go_wp2_with fail
      ((with_reducible refine (turn6 z4 _ l4).mono ?_))
      rintro e w' ⟨rfl, rfl⟩
      go_wp2_with fail
      ((with_reducible refine (turn11 z4 _ l4).mono ?_))
      rintro e w' ⟨rfl, rfl⟩
      go_wp2_with fail
      ((with_reducible refine (turn25 z4 _ l4).mono ?_))
      rintro e w' ⟨rfl, rfl⟩
      go_wp2_with fail
      ((with_reducible refine (turn2 z0 _ l0).mono ?_))
      rintro e w' ⟨rfl, rfl⟩
      go_wp2_with fail
      ((with_reducible refine (turn13 z0 _ l0).mono ?_))
      rintro e w' ⟨rfl, rfl⟩
      go_wp2_with fail
      ((with_reducible refine (turn22 z0 _ l0).mono ?_))
      rintro e w' ⟨rfl, rfl⟩
      go_wp2
      go_round
      case rel =>
        refine ⟨k + 1, _, _, _, _, _, _, _, _, by omega, by go_num, ?_, rfl, rfl, rfl, ?_, rfl, rfl, rfl, HN⟩
        · rw [bgE_num z4 l4, bgA_num z0 l0, chs_num z4 z5 z6 l4 l5 l6, maj_num z0 z1 z2 l0 l1 l2, first_num 0]
          rfl
        · rw [bgE_num z4 l4, chs_num z4 z5 z6 l4 l5 l6, fifth_num]
          rfl
      case measure => simp [intOf]; omega
    · obtain rfl : k = 64 := by omega
      rw [show ((64 : Nat) : Int) = 64 from rfl]
      have HE := Lib.hid HK.out.end_
      obtain ⟨l0, l1, l2, l3, l4, l5, l6, l7⟩ := HK.out.ok HW.out
      simp only at l0 l1 l2 l3 l4 l5 l6 l7
      have HVL : Hid (∀ x ∈ [z0, z1, z2, z3, z4, z5, z6, z7], x < 4294967296) := Lib.hid (by simp; omega)
      go_wp2_with fail
      go_loopw [140] (fun i wr => ∃ (k : Nat), k ≤ 8 ∧ i = .int .i64 k ∧ Hid (Blk wr b 169 (millCells (part ws [z0, z1, z2, z3, z4, z5, z6, z7] k) bs n)) ∧ Hid (w.grownBy wr (some b))) (fun i _ => 8 - (intOf i).toNat)
      case atStart => exact ⟨0, Nat.zero_le _, rfl, HM2, Lib.hid (only_drewN (only_below (only_refl w _) HBN.out) _)⟩
      case round =>
        obtain ⟨j, hj, rfl, HM3, HG⟩ := hrel
        by_cases hlt2 : j < 8
        · have hix := fun W => index_eight [z0, z1, z2, z3, z4, z5, z6, z7] j hlt2 rfl W
          have hset := part_set ws [z0, z1, z2, z3, z4, z5, z6, z7] j H8.out rfl hlt2
          obtain ⟨x, hx⟩ : ∃ x, [z0, z1, z2, z3, z4, z5, z6, z7].getD j 0 = x := ⟨_, rfl⟩
          obtain ⟨y, hy⟩ : ∃ y, ws.getD j 0 = y := ⟨_, rfl⟩
          have lx : x < 4294967296 := by rw [← hx]; exact getD_lt (by omega) HVL.out j
          have ly : y < 4294967296 := by rw [← hy]; exact getD_lt (by omega) HW.out j
          simp only [hx] at hix
          have hcell := HM3.out.cell j
          rw [mill_word _ _ _ _ (part_length ws _ j H8.out rfl (by omega)) hlt2, part_get ws _ j H8.out rfl hlt2, hy] at hcell
          rw [hx, hy] at hset
          have HSE := Lib.hid hset
          have hf := HM3.out.frozen j
          have i0 : (0 : Int) ≤ (j : Int) := by omega
          have i1 : (j : Int) < 8 := by omega
          clear hx hy hset
          simp only [w32, List.map_cons, List.map_nil] at hix
          go_wp2_with fail
          go_region
          go_wp2
          go_roundw
          case rel =>
            refine ⟨j + 1, by omega, by go_num, Lib.hid ?_, Lib.hid ?_⟩
            · have h := HM3.out.set_ j (.int .u32 (((y + x) % 4294967296 : Nat) : Int))
              rw [mill_set _ _ _ j _ (part_length ws _ j H8.out rfl (by omega)) hlt2, HSE.out] at h
              simp only [Int.natCast_emod, Int.natCast_add] at h
              exact h
            · exact only_drewN (only_setCell HG.out (.inl rfl) _) 1
          case measure => simp [intOf]; omega
        · obtain rfl : j = 8 := by omega
          have HF : Hid (Blk wr b 169 (millCells (comp ws bs) bs n)) := Lib.hid (by rw [HE.out, ← part_end ws _ H8.out rfl]; exact HM3.out)
          go_wp2
          go_end0
          exact ⟨rfl, HF.out, HG.out⟩
end Go.Proofs.YtkonokjhpddbfaaDoor
namespace Go.Proofs.YtkonokjhpddbfaaDoor
open Go.RowKit
set_option linter.unusedVariables false

/-- A slice of bytes that is read, of no more cells than its capacity, outside block b. -/
structure Src (w : World) (b : Nat) (A : Option Addr) (c : Nat) (l : List Nat) : Prop where
  le : l.length ≤ c
  at_ : l = [] ∨ ∃ g off, A = some ⟨g, off, none⟩ ∧ g < w.heap.size ∧ g ≠ b ∧ ∀ i, i < l.length → w.cell? ⟨g, off + i, none⟩ = some (.int .u8 ((l.getD i 0 : Nat) : Int))
  lt : ∀ x ∈ l, x < 256

theorem Src.grown {w w' : World} {b : Nat} {A : Option Addr} {c : Nat} {l : List Nat} (h : Src w b A c l) (hg : w.grownBy w' (some b)) : Src w' b A c l := by
  refine ⟨h.le, ?_, h.lt⟩
  rcases h.at_ with h1 | ⟨g, off, h1, h2, h3, h4⟩
  · exact .inl h1
  · refine .inr ⟨g, off, h1, Nat.lt_of_lt_of_le h2 hg.size, h3, fun i hi => ?_⟩
    rw [← h4 i hi]
    exact World.cell?_of_block (hg.block g h2 (fun e => h3 (by injection e)))

theorem Src.below {w w' : World} {b : Nat} {A : Option Addr} {c : Nat} {l : List Nat} (h : Src w b A c l) (hB : Below w.heap.size w w') : Src w' b A c l := by
  refine ⟨h.le, ?_, h.lt⟩
  rcases h.at_ with h1 | ⟨g, off, h1, h2, h3, h4⟩
  · exact .inl h1
  · refine .inr ⟨g, off, h1, Nat.lt_of_lt_of_le h2 hB.size, h3, fun i hi => ?_⟩
    rw [← h4 i hi]
    exact hB.cell (p := ⟨g, off + i, none⟩) h2

theorem Src.blk {w : World} {b g : Nat} {t : TypeId} {l : List Nat} {rest : List Value} (h : Blk w g t (w8 l ++ rest)) (hb : g ≠ b) (hl : ∀ x ∈ l, x < 256) (c : Nat) (hc : l.length ≤ c) : Src w b (some ⟨g, 0, none⟩) c l := by
  refine ⟨hc, .inr ⟨g, 0, rfl, h.lt, hb, fun i hi => ?_⟩, hl⟩
  rw [Nat.zero_add, h.cell, List.getElem?_append_left (by rw [w8_length]; exact hi), w8_get l i hi]

/-- A mill into which just these bytes came. -/
structure Rep (w : World) (b : Nat) (l bs : List Nat) : Prop where
  blk : Blk w b 169 (millCells (wordsAt l (l.length / 64)) bs l.length)
  len : bs.length = 64
  lt : ∀ x ∈ bs, x < 256
  rest : bs.take (l.length % 64) = l.drop (64 * (l.length / 64))

theorem splice_mill (ws bs : List Nat) (n r : Nat) (ch : List Nat) (h8 : ws.length = 8) (hb : bs.length = 64) (hr : r + ch.length ≤ 64) : splice (millCells ws bs n) (8 + r) (w8 ch) = millCells ws (splice bs r ch) n := by
  unfold splice millCells
  rw [w8_length]
  have e1 : (w32 ws ++ (w8 bs ++ [Value.int .u64 (n : Int)])).take (8 + r) = w32 ws ++ w8 (bs.take r) := by
    rw [show 8 + r = (w32 ws).length + r by rw [w32_length, h8], List.take_length_add_append, List.take_append_of_le_length (by rw [w8_length]; omega)]
    simp [w8, List.map_take]
  have e2 : (w32 ws ++ (w8 bs ++ [Value.int .u64 (n : Int)])).drop (8 + r + ch.length) = w8 (bs.drop (r + ch.length)) ++ [Value.int .u64 (n : Int)] := by
    rw [show 8 + r + ch.length = (w32 ws).length + (r + ch.length) by rw [w32_length, h8]; omega, List.drop_length_add_append, List.drop_append_of_le_length (by rw [w8_length]; omega)]
    simp [w8, List.map_drop]
  rw [e1, e2]
  simp [w8]

theorem splice_length' (bs : List Nat) (r : Nat) (ch : List Nat) (hb : bs.length = 64) (hr : r + ch.length ≤ 64) : (splice bs r ch).length = 64 := by
  rw [length_splice _ _ _ (by omega), hb]

theorem splice_lt (bs : List Nat) (r : Nat) (ch : List Nat) (h1 : ∀ x ∈ bs, x < 256) (h2 : ∀ x ∈ ch, x < 256) : ∀ x ∈ splice bs r ch, x < 256 := by
  intro x hx
  simp only [splice, List.mem_append] at hx
  rcases hx with hx | hx | hx
  · exact h1 x (List.mem_of_mem_take hx)
  · exact h2 x hx
  · exact h1 x (List.mem_of_mem_drop hx)

theorem splice_take (l bs ch : List Nat) (hb : bs.length = 64) (hr : l.length % 64 + ch.length ≤ 64) (h : bs.take (l.length % 64) = l.drop (64 * (l.length / 64))) :
    (splice bs (l.length % 64) ch).take (l.length % 64 + ch.length) = (l ++ ch).drop (64 * (l.length / 64)) := by
  unfold splice
  rw [h, List.drop_append_of_le_length (by omega), ← List.append_assoc, List.take_append_of_le_length (by simp; omega), List.take_of_length_le (by simp; omega)]

/-- A block that isn't full yet. -/
theorem Rep.some_ {w : World} {b : Nat} {l bs ch : List Nat} (h : Rep w b l bs) (hc : ∀ x ∈ ch, x < 256) (hr : l.length % 64 + ch.length < 64) {w' : World} (hB : Blk w' b 169 (millCells (wordsAt l (l.length / 64)) (splice bs (l.length % 64) ch) (l.length + ch.length))) : Rep w' b (l ++ ch) (splice bs (l.length % 64) ch) := by
  have e : (l.length + ch.length) / 64 = l.length / 64 := by omega
  have e2 : (l.length + ch.length) % 64 = l.length % 64 + ch.length := by omega
  refine ⟨?_, splice_length' _ _ _ h.len (by omega), splice_lt _ _ _ h.lt hc, ?_⟩
  · rw [List.length_append, e, wordsAt_append _ _ _ (by omega)]
    exact hB
  · rw [List.length_append, e, e2]
    exact splice_take l bs ch h.len (by omega) h.rest

/-- A full one. -/
theorem Rep.full {w : World} {b : Nat} {l bs ch : List Nat} (h : Rep w b l bs) (hc : ∀ x ∈ ch, x < 256) (hr : l.length % 64 + ch.length = 64) {w' : World} (hB : Blk w' b 169 (millCells (comp (wordsAt l (l.length / 64)) (splice bs (l.length % 64) ch)) (splice bs (l.length % 64) ch) (l.length + ch.length))) : Rep w' b (l ++ ch) (splice bs (l.length % 64) ch) := by
  have e : (l.length + ch.length) / 64 = l.length / 64 + 1 := by omega
  have e2 : (l.length + ch.length) % 64 = 0 := by omega
  have e3 : splice bs (l.length % 64) ch = ((l ++ ch).drop (64 * (l.length / 64))).take 64 := by
    have h64 := splice_length' bs (l.length % 64) ch h.len (by omega)
    rw [← splice_take l bs ch h.len (by omega) h.rest, hr, List.take_take, Nat.min_self, List.take_of_length_le (by omega)]
  refine ⟨?_, splice_length' _ _ _ h.len (by omega), splice_lt _ _ _ h.lt hc, ?_⟩
  · rw [List.length_append, e, wordsAt, wordsAt_append _ _ _ (by omega), ← e3]
    exact hB
  · rw [List.length_append, e, e2, List.take_zero, List.drop_eq_nil_of_le (by simp; omega)]

/-- copy into a block that is known whole, at a step of a region that draws its order. -/
theorem step_copy_at {P : Program} {ops : Array Oper} {o : Oper} {a : Act} {w : World} {K : Act → World → Prop} {Q : Exit → Act → World → Prop} {E : Prop} (hgd : o.guard = none) (d s : Operand) (dT sT : TypeId)
    (ho : o.op = .call { callee := .builtin .copy, args := #[d, s], argTypes := #[dT, sT] }) (elem : TypeId) (hu : P.underlying dT = some (.slice elem)) (hsz : (P.info? elem).map (·.size) = some 1)
    (g off dLen dCap : Nat) (ad : Addr) (sLen sCap : Nat) (hd : a.eval d = .slice (some ⟨g, off, none⟩) dLen dCap) (hs : a.eval s = .slice (some ad) sLen sCap)
    (cur : List Value) (t : TypeId) (hg : Blk w g t cur) (cs : List Value) (n : Nat) (hcs : cs.length = n) (hn : n = Nat.min sLen dLen)
    (hsrc : ∀ j v, cs[j]? = some v → w.cell? (ad.add j) = some v) (hfit : off + n ≤ cur.length) (h1 : ∀ v ∈ cs, v.oneCell' = true)
    (h : ∀ w', Hid (Blk w' g t (splice cur off cs)) → Hid (w.grownBy w' (some g)) → K (a.put o.dst (.int .i64 (n : Int))) w') :
    if Region.wanted o (yielded ops a.tmps) = true then Oper.wp P o a w K Q else E := by
  have hw : Region.wanted o (yielded ops a.tmps) = true := by simp [Region.wanted, hgd]
  rw [if_pos hw]
  subst hcs
  have hrun := run_copy_row (P := P) w dT sT o.type elem g off dLen dCap ad sLen sCap cur.toArray t cs hu hsz hg hn hsrc (by simpa using hfit) h1
  have h2 := h (w.setRow g (splice cur off cs).toArray) (Lib.hid (hg.setRow _)) (Lib.hid (only_setRow (only_refl w _) _))
  unfold Oper.wp
  simp [execOp, ho, resolve, invoke, builtin, hd, hs, hrun, Result.andThen]
  exact (by simpa [splice] using h2 : K (a.put o.dst (.int .i64 (cs.length : Int))) (w.setRow g (List.take off cur ++ (cs ++ List.drop (off + cs.length) cur)).toArray))

theorem info5 : (Tryd.prog.info? 5).map (·.size) = some 1 := by kernel_rfl
end Go.Proofs.YtkonokjhpddbfaaDoor
namespace Go.Proofs.YtkonokjhpddbfaaDoor
open Go.RowKit
set_option linter.unusedVariables false

theorem Tab.lt {w : World} (h : Tab w) : 0 < w.heap.size := World.block_lt_of_cell? w _ (h.at 0 (by omega))
theorem Tab.grown {w w' : World} {b : Nat} (h : Tab w) (hg : w.grownBy w' (some b)) (hb : b ≠ 0) : Tab w' := fun j v hv => by
  rw [← h j v hv]
  exact World.cell?_of_block (hg.block 0 h.lt (fun e => hb (by injection e with e; exact e.symm)))
theorem Tab.below {w w' : World} {B : Nat} (h : Tab w) (hg : Below B w w') (hb : 0 < B) : Tab w' := fun j v hv => by
  rw [← h j v hv]
  exact hg.cell (p := ⟨0, 0 + j, none⟩) hb

/-- What a mill is behind more bytes. -/
def Took (w : World) (b : Nat) (l : List Nat) (e : Ending) (w' : World) : Prop := e = .returned (.tuple #[]) ∧ (∃ bs, Rep w' b l bs) ∧ w.grownBy w' (some b)

theorem slice_block (b r : Nat) (hr : r < 64) (W : World) : (Instr.sliceAt 167 (.pointer (some ⟨b, 8, none⟩)) (some (.int .u64 (r : Int))) none none).run Tryd.prog W = .ok (.slice (some ⟨b, 8 + r, none⟩) (64 - r) (64 - r)) W := by
  have h := run_sliceAt_array_l (P := Tryd.prog) W 167 ⟨b, 8, none⟩ (by kernel_rfl) .u64 (r : Int) (by omega) (by rw [show Tryd.prog.arrayLen 167 = 64 by kernel_rfl]; omega)
  rw [h, show Tryd.prog.arrayLen 167 = 64 by kernel_rfl, show Tryd.prog.elem 167 = 5 by kernel_rfl]
  obtain ⟨i0, hi, hz0, hz1, hz2⟩ := info_parts (show (Tryd.prog.info? 5).map (fun i => (i.zero, i.size, i.bytes)) = some (some (.int .u8 0), 1, 1) by kernel_rfl)
  have e : ¬ (64 = r) := by omega
  simp [sizeOf, typeInfo, hi, hz1, slicedAt, e, Addr.add_mid]

theorem mill_setMany (ws bs : List Nat) (n x : Nat) (h1 : ws.length = 8) (h2 : bs.length = 64) : (millCells ws bs n).set 72 (.int .u64 (x : Int)) = millCells ws bs x := by
  unfold millCells
  rw [List.set_append_right _ _ (by rw [w32_length]; omega), List.set_append_right _ _ (by rw [w32_length, w8_length]; omega), w32_length, w8_length, h1, h2]
  rfl

theorem Src.cut {w : World} {b : Nat} {g off c n : Nat} {l : List Nat} (h : Src w b (some ⟨g, off, none⟩) c l) (hn : n ≤ l.length) : Src w b (if c = n then some ⟨g, off, none⟩ else some ⟨g, off + n, none⟩) (c - n) (l.drop n) := by
  refine ⟨by have := h.le; rw [List.length_drop]; omega, ?_, fun x hx => h.lt x (List.mem_of_mem_drop hx)⟩
  rcases Nat.lt_or_ge n l.length with hlt | hge
  · rcases h.at_ with h0 | ⟨g', off', he, h2, h3, h4⟩
    · rw [h0] at hlt; simp at hlt
    · injection he with he
      injection he with e1 e2
      subst e1; subst e2
      have := h.le
      rw [if_neg (by omega)]
      refine .inr ⟨g, off + n, rfl, h2, h3, fun i hi => ?_⟩
      rw [List.length_drop] at hi
      rw [Nat.add_assoc, h4 (n + i) (by omega)]
      simp [List.getD]
  · exact .inl (List.drop_eq_nil_of_le hge)

def lenOf : Value → Nat
  | .slice _ n _ => n
  | _ => 0

set_option maxRecDepth 100000 in
set_option maxHeartbeats 4000000 in
theorem take_any (b c : Nat) (A : Option Addr) (l bs part : List Nat) (w : World) (HR : Hid (Rep w b l bs)) (HT : Hid (Tab w)) (hb : b ≠ 0) (HS : Hid (Src w b A c part)) (HN : Hid (l.length + part.length ≤ 1000000000000)) (hc : c ≤ 9223372036854775807) (m : Nat) (HM : Hid (part.length = m)) :
    Calls Tryd.prog 105 #[.pointer (some ⟨b, 0, none⟩), .slice A m c] w (Took w b (l ++ part)) := by
  go_enter Tryd.func105, Tryd.ntmps105
  go_wp2_with fail
  go_loopw [1] (fun v wr => ∃ (A' : Option Addr) (c' m' : Nat) (pre rest bs' : List Nat), c' ≤ 9223372036854775807 ∧ v = .slice A' m' c' ∧ Hid (rest.length = m') ∧ Hid (pre ++ rest = part) ∧ Hid (Src wr b A' c' rest) ∧ Hid (Rep wr b (l ++ pre) bs') ∧ Hid (w.grownBy wr (some b))) (fun v _ => lenOf v)
  case atStart => exact ⟨A, c, m, [], part, bs, hc, rfl, HM, Lib.hid rfl, HS, Lib.hid (by rw [List.append_nil]; exact HR.out), Lib.hid (only_refl _ _)⟩
  case round =>
    obtain ⟨A', c', m', pre, rest, bs', hc', rfl, HM', HP, HS', HR', HG⟩ := hrel
    by_cases hm0 : m' = 0
    · subst hm0
      go_wp2
      go_end0
      have h0 : rest = [] := List.eq_nil_of_length_eq_zero HM'.out
      have hp := HP.out
      rw [h0, List.append_nil] at hp
      exact ⟨rfl, ⟨bs', by rw [← hp]; exact HR'.out⟩, HG.out⟩
    · have hpos : 0 < m' := by omega
      have hposI : (0 : Int) < (m' : Int) := by omega
      obtain ⟨L, hL⟩ : ∃ L, (l ++ pre).length = L := ⟨_, rfl⟩
      obtain ⟨r, hr⟩ : ∃ r, L % 64 = r := ⟨_, rfl⟩
      obtain ⟨n, hn⟩ : ∃ n, min m' (64 - r) = n := ⟨_, rfl⟩
      have hLb : L + m' ≤ 1000000000000 := by have h1 := HN.out; have h2 := HP.out; have h3 := HM'.out; rw [← h2, List.length_append] at h1; rw [List.length_append] at hL; omega
      have hc72 := HR'.out.blk.cell 72
      rw [mill_many _ _ _ (wordsAt_length _ _) HR'.out.len, hL] at hc72
      have hf72 := HR'.out.blk.frozen 72
      have hrlt : r < 64 := by omega
      have hn1 : 0 < n := by omega
      have hn2 : n ≤ m' := by omega
      have hn3 : r + n ≤ 64 := by omega
      have hsl := slice_block b r hrlt
      have hrI : (L : Int).tmod 64 = (r : Int) := by rw [Int.tmod_eq_emod_of_nonneg (by omega)]; omega
      have r1 : (0 : Int) ≤ (r : Int) := by omega
      have r2 : (r : Int) < 64 := by omega
      have L0 : (0 : Int) ≤ (L : Int) := by omega
      have L1 : (L : Int) ≤ 1000000000000 := by omega
      rcases HS'.out.at_ with h0 | ⟨g, off, rfl, hg, hgb, hcell⟩
      · have := HM'.out
        rw [h0] at this
        simp at this
        omega
      have HCL : Hid ((w8 (rest.take n)).length = n) := Lib.hid (by rw [w8_length, List.length_take, HM'.out]; omega)
      have HMN : Hid (n = Nat.min m' (64 - r)) := Lib.hid hn.symm
      have HCS : Hid (∀ j v, (w8 (rest.take n))[j]? = some v → wr.drew.cell? ((⟨g, off, none⟩ : Addr).add j) = some v) := Lib.hid (by
        intro j v hv
        have hj : j < n := by have := (List.getElem?_eq_some_iff.1 hv).1; rw [HCL.out] at this; exact this
        rw [Addr.add_mid]
        show wr.cell? ⟨g, off + j, none⟩ = some v
        rw [hcell j (by rw [HM'.out]; omega), ← hv, w8_get _ _ (by rw [List.length_take, HM'.out]; omega)]
        simp [List.getD, hj])
      have HFI : Hid (8 + r + n ≤ (millCells (wordsAt (l ++ pre) ((l ++ pre).length / 64)) bs' (l ++ pre).length).length) := Lib.hid (by rw [mill_length _ _ _ (wordsAt_length _ _) HR'.out.len]; omega)
      have HO8 := Lib.hid (w8_one (rest.take n))
      have HBD : Hid (Blk wr.drew b 169 (millCells (wordsAt (l ++ pre) ((l ++ pre).length / 64)) bs' (l ++ pre).length)) := Lib.hid HR'.out.blk
      have HLR := Lib.hid (And.intro hL (And.intro hr hn))
      clear hr hn hL hcell
      go_wp2_with fail
      go_region_law (refine step_copy_at rfl (.tmp 16) (.tmp 17) 30 30 rfl 5 Tryd.underlying30 info5 b (8 + r) (64 - r) (64 - r) ⟨g, off, none⟩ m' c' (by rfl) (by rfl) _ 169 HBD.out (w8 (rest.take n)) n HCL.out HMN.out HCS.out HFI.out HO8.out ?_; intro w5 HB5 HG5)
      have HG6 : Hid (w.grownBy w5 (some b)) := Lib.hid (only_trans (only_drewN HG.out 1) HG5.out)
      have HB6 : Hid (Blk w5 b 169 (millCells (wordsAt (l ++ pre) ((l ++ pre).length / 64)) (splice bs' r (rest.take n)) L)) := Lib.hid (by
        have h := HB5.out
        rw [splice_mill _ _ _ _ _ (wordsAt_length _ _) HR'.out.len (by rw [← w8_length, HCL.out]; exact hn3), HLR.out.1] at h
        rw [HLR.out.1]
        exact h)
      have HSL : Hid ((splice bs' r (rest.take n)).length = 64) := Lib.hid (splice_length' _ _ _ HR'.out.len (by rw [← w8_length, HCL.out]; exact hn3))
      have d72 := HB6.out.cell 72
      rw [mill_many _ _ _ (wordsAt_length _ _) HSL.out] at d72
      have e72 := HB6.out.frozen 72
      have HSC := Lib.hid (HS'.out.cut (n := n) (by rw [HM'.out]; exact hn2))
      have hcm : m' ≤ c' := by have := HS'.out.le; rw [HM'.out] at this; exact this
      have n0 : (0 : Int) ≤ (n : Int) := by omega
      have n1 : (n : Int) ≤ (m' : Int) := by omega
      have n2 : (n : Int) ≤ 64 := by omega
      have HSR := Lib.hid (HSC.out.grown (only_trans (only_drewN (only_refl wr (some b)) 1) HG5.out))
      have HML : Hid ((rest.drop n).length = m' - n) := Lib.hid (by rw [List.length_drop, HM'.out])
      have HPP : Hid (pre ++ rest.take n ++ rest.drop n = part) := Lib.hid (by rw [List.append_assoc, List.take_append_drop]; exact HP.out)
      have HCH : Hid (∀ x ∈ rest.take n, x < 256) := Lib.hid fun x hx => HS'.out.lt x (List.mem_of_mem_take hx)
      have HTL : Hid ((rest.take n).length = n) := Lib.hid (by rw [← w8_length]; exact HCL.out)
      clear hc72 hf72 hrI hsl
      have HMG : Hid (Blk (w5.setCell ⟨b, 72, none⟩ (.int .u64 ((L : Int) + (n : Int)))) b 169 (millCells (wordsAt (l ++ pre) ((l ++ pre).length / 64)) (splice bs' r (rest.take n)) (L + n))) := Lib.hid (by
        have h := HB6.out.set_ 72 (.int .u64 ((L + n : Nat) : Int))
        rw [mill_setMany _ _ _ _ (wordsAt_length _ _) HSL.out] at h
        simpa using h)
      have HGG : Hid (w.grownBy (w5.setCell ⟨b, 72, none⟩ (.int .u64 ((L : Int) + (n : Int)))) (some b)) := Lib.hid (only_setCell HG6.out (.inl rfl) _)
      have HTG : Hid (Tab (w5.setCell ⟨b, 72, none⟩ (.int .u64 ((L : Int) + (n : Int))))) := Lib.hid (HT.out.grown HGG.out hb)
      by_cases hfull : r + n = 64
      · have hb1 : (((L : Int) + (n : Int)) % 64 == 0) = true := by have h1 := HLR.out.2.1; simp; omega
        by_cases hcap : c' = n
        · rw [if_pos hcap, show c' - n = 0 by omega] at HSR
          have HSG := Lib.hid (HSR.out.grown (only_setCell (only_refl w5 (some b)) (p := ⟨b, 72, none⟩) (.inl rfl) (.int .u64 ((L : Int) + (n : Int)))))
          go_wp2_with fail
          refine (grind_any b (L + n) _ _ _ HMG HTG hb (Lib.hid (wordsAt_length _ _)) HSL (Lib.hid (splice_lt _ _ _ HR'.out.lt HCH.out)) (Lib.hid (wordsAt_lt _ _))).mono ?_
          rintro e w7 ⟨rfl, hb7, hg7⟩
          have HR7 : Hid (Rep w7 b (l ++ pre ++ rest.take n) (splice bs' r (rest.take n))) := Lib.hid (by
            have h := HR'.out.full (ch := rest.take n) HCH.out (by rw [HLR.out.1, HLR.out.2.1, HTL.out]; exact hfull) (w' := w7) (by rw [HLR.out.1, HLR.out.2.1, HTL.out]; rw [HLR.out.1] at hb7; exact hb7)
            rw [HLR.out.1, HLR.out.2.1] at h
            exact h)
          have HG7 := Lib.hid (only_trans HGG.out hg7)
          have HS7 := Lib.hid (HSG.out.grown hg7)
          clear hb7 hg7
          go_wp2
          go_roundw
          case rel => exact ⟨_, _, _, pre ++ rest.take n, rest.drop n, _, by omega, rfl, HML, HPP, HS7, Lib.hid (by rw [← List.append_assoc]; exact HR7.out), HG7⟩
          case measure => simp [lenOf]; omega
        · rw [if_neg hcap] at HSR
          have HSG := Lib.hid (HSR.out.grown (only_setCell (only_refl w5 (some b)) (p := ⟨b, 72, none⟩) (.inl rfl) (.int .u64 ((L : Int) + (n : Int)))))
          go_wp2_with fail
          refine (grind_any b (L + n) _ _ _ HMG HTG hb (Lib.hid (wordsAt_length _ _)) HSL (Lib.hid (splice_lt _ _ _ HR'.out.lt HCH.out)) (Lib.hid (wordsAt_lt _ _))).mono ?_
          rintro e w7 ⟨rfl, hb7, hg7⟩
          have HR7 : Hid (Rep w7 b (l ++ pre ++ rest.take n) (splice bs' r (rest.take n))) := Lib.hid (by
            have h := HR'.out.full (ch := rest.take n) HCH.out (by rw [HLR.out.1, HLR.out.2.1, HTL.out]; exact hfull) (w' := w7) (by rw [HLR.out.1, HLR.out.2.1, HTL.out]; rw [HLR.out.1] at hb7; exact hb7)
            rw [HLR.out.1, HLR.out.2.1] at h
            exact h)
          have HG7 := Lib.hid (only_trans HGG.out hg7)
          have HS7 := Lib.hid (HSG.out.grown hg7)
          clear hb7 hg7
          go_wp2
          go_roundw
          case rel => exact ⟨_, _, _, pre ++ rest.take n, rest.drop n, _, by omega, rfl, HML, HPP, HS7, Lib.hid (by rw [← List.append_assoc]; exact HR7.out), HG7⟩
          case measure => simp [lenOf]; omega
      · have hb1 : (((L : Int) + (n : Int)) % 64 == 0) = false := by have h1 := HLR.out.2.1; simp; omega
        have HR7 : Hid (Rep (w5.setCell ⟨b, 72, none⟩ (.int .u64 ((L : Int) + (n : Int)))) b (l ++ pre ++ rest.take n) (splice bs' r (rest.take n))) := Lib.hid (by
          have h := HR'.out.some_ (ch := rest.take n) HCH.out (by rw [HLR.out.1, HLR.out.2.1, HTL.out]; omega) (w' := w5.setCell ⟨b, 72, none⟩ (.int .u64 ((L : Int) + (n : Int)))) (by rw [HLR.out.1, HLR.out.2.1, HTL.out]; have h2 := HMG.out; rw [HLR.out.1] at h2; exact h2)
          rw [HLR.out.1, HLR.out.2.1] at h
          exact h)
        by_cases hcap : c' = n
        · rw [if_pos hcap, show c' - n = 0 by omega] at HSR
          have HSG := Lib.hid (HSR.out.grown (only_setCell (only_refl w5 (some b)) (p := ⟨b, 72, none⟩) (.inl rfl) (.int .u64 ((L : Int) + (n : Int)))))
          go_wp2
          go_roundw
          case rel => exact ⟨_, _, _, pre ++ rest.take n, rest.drop n, _, by omega, rfl, HML, HPP, HSG, Lib.hid (by rw [← List.append_assoc]; exact HR7.out), HGG⟩
          case measure => simp [lenOf]; omega
        · rw [if_neg hcap] at HSR
          have HSG := Lib.hid (HSR.out.grown (only_setCell (only_refl w5 (some b)) (p := ⟨b, 72, none⟩) (.inl rfl) (.int .u64 ((L : Int) + (n : Int)))))
          go_wp2
          go_roundw
          case rel => exact ⟨_, _, _, pre ++ rest.take n, rest.drop n, _, by omega, rfl, HML, HPP, HSG, Lib.hid (by rw [← List.append_assoc]; exact HR7.out), HGG⟩
          case measure => simp [lenOf]; omega
end Go.Proofs.YtkonokjhpddbfaaDoor
namespace Go.Proofs.YtkonokjhpddbfaaDoor
open Go.RowKit
set_option linter.unusedVariables false

def zfour : Array Value := #[.int .u8 0, .int .u8 0, .int .u8 0, .int .u8 0]
theorem info52 : (Tryd.prog.info? 31).map (·.size) = some 4 := by kernel_rfl
def ztail : Array Value := #[.int .u8 128, .int .u8 0, .int .u8 0, .int .u8 0, .int .u8 0, .int .u8 0, .int .u8 0, .int .u8 0, .int .u8 0, .int .u8 0, .int .u8 0, .int .u8 0, .int .u8 0, .int .u8 0, .int .u8 0, .int .u8 0, .int .u8 0, .int .u8 0, .int .u8 0, .int .u8 0, .int .u8 0, .int .u8 0, .int .u8 0, .int .u8 0, .int .u8 0, .int .u8 0, .int .u8 0, .int .u8 0, .int .u8 0, .int .u8 0, .int .u8 0, .int .u8 0, .int .u8 0, .int .u8 0, .int .u8 0, .int .u8 0, .int .u8 0, .int .u8 0, .int .u8 0, .int .u8 0, .int .u8 0, .int .u8 0, .int .u8 0, .int .u8 0, .int .u8 0, .int .u8 0, .int .u8 0, .int .u8 0, .int .u8 0, .int .u8 0, .int .u8 0, .int .u8 0, .int .u8 0, .int .u8 0, .int .u8 0, .int .u8 0, .int .u8 0, .int .u8 0, .int .u8 0, .int .u8 0, .int .u8 0, .int .u8 0, .int .u8 0, .int .u8 0]
theorem ztail_eq : (w8 (128 :: List.replicate 63 0)).toArray = ztail := by kernel_rfl
theorem tail_length (n : Nat) : (tail n).length = 64 - (n + 8) % 64 := by simp [tail]; omega
theorem tail_lt (n : Nat) : ∀ x ∈ tail n, x < 256 := by
  intro x hx
  simp [tail] at hx
  omega
theorem tail_whole (n : Nat) : w8 (tail n) ++ w8 (List.replicate ((n + 8) % 64) 0) = w8 (128 :: List.replicate 63 0) := by
  unfold tail w8
  rw [← List.map_append, List.cons_append, List.replicate_append_replicate]
  congr 3
  omega

set_option maxRecDepth 100000 in
set_option maxHeartbeats 4000000 in
theorem end_any (b L : Nat) (l bs : List Nat) (w : World) (HR : Hid (Rep w b l bs)) (HT : Hid (Tab w)) (hb : b ≠ 0) (HL : Hid (l.length = L)) (hL : L ≤ 100000000000) :
    Calls Tryd.prog 106 #[.pointer (some ⟨b, 0, none⟩)] w (Took w b (pad l)) := by
  have hc72 := HR.out.blk.cell 72
  rw [mill_many _ _ _ (wordsAt_length _ _) HR.out.len, HL.out] at hc72
  obtain ⟨q1, hq1⟩ : ∃ q, 8 * L / 4294967296 = q := ⟨_, rfl⟩
  obtain ⟨q2, hq2⟩ : ∃ q, 8 * L % 4294967296 = q := ⟨_, rfl⟩
  have i1 : (L : Int) * 8 / 4294967296 = (q1 : Int) := by omega
  have i2 : (L : Int) * 8 % 4294967296 = (q2 : Int) := by omega
  have l1 : q1 < 4294967296 := by omega
  have l2 : q2 < 4294967296 := by omega
  have j1 : (q1 : Int) ≤ 4294967295 := by omega
  have HQ := Lib.hid (And.intro hq1 hq2)
  clear hq1 hq2
  go_enter Tryd.func106, Tryd.ntmps106
  go_wp2_with fail
  refine (bytesOf_any q1 _ l1).mono ?_
  rintro e w1 ⟨rfl, hB1⟩
  have HB1 := Lib.hid hB1
  clear hB1
  go_wp2_with fail
  refine (bytesOf_any q2 _ l2).mono ?_
  rintro e w2 ⟨rfl, hB2⟩
  have HB2 := Lib.hid (HB1.out.trans (hB2.mono HB1.out.size))
  clear hB2
  have HS1 : Hid ((Tryd.prog.info? 31).map (·.size) = some (w8 (four q1)).toArray.size) := Lib.hid info52
  have HS2 : Hid ((Tryd.prog.info? 31).map (·.size) = some (w8 (four q2)).toArray.size) := Lib.hid info52
  have HO1 := Lib.hid (all_oneCell_toArray (w8_one (four q1)))
  have HO2 := Lib.hid (all_oneCell_toArray (w8_one (four q2)))
  have HA1 : Hid (Blk ((w2.alloc (.cells zfour 31)).alloc (.cells zfour 31)) w2.heap.size 31 zfour.toList) := Lib.hid ((Blk.new w2 31 zfour.toList).alloc _)
  have HA2 : Hid (Blk (((w2.alloc (.cells zfour 31)).alloc (.cells zfour 31)).setRow w2.heap.size (w8 (four q1)).toArray) (w2.heap.size + 1) 31 zfour.toList) := Lib.hid (by
    have h := Blk.new (w2.alloc (.cells zfour 31)) 31 zfour.toList
    rw [World.size_alloc] at h
    exact (setRow_other _ _ _ _ (by omega)).trans h)
  go_upto_region 2 with (first | (refine wpList_store_row rfl 31 (.tmp 3) (.tmp 14) rfl w2.heap.size (w8 (four q1)).toArray rfl rfl 31 _ HA1.out HS1.out rfl HO1.out ?_) | (refine wpList_store_row rfl 31 (.tmp 4) (.tmp 17) rfl (w2.heap.size + 1) (w8 (four q2)).toArray rfl rfl 31 _ HA2.out HS2.out rfl HO2.out ?_))
  have HX1 : Hid (Blk ((((w2.alloc (.cells #[.int .u8 0, .int .u8 0, .int .u8 0, .int .u8 0] 31)).alloc (.cells #[.int .u8 0, .int .u8 0, .int .u8 0, .int .u8 0] 31)).setRow w2.heap.size (w8 (four q1)).toArray).setRow (w2.heap.size + 1) (w8 (four q2)).toArray) w2.heap.size 31 (w8 (four q1))) := Lib.hid ((setRow_other _ _ _ _ (by omega)).trans (HA1.out.setRow _))
  have HX2 : Hid (Blk ((((w2.alloc (.cells #[.int .u8 0, .int .u8 0, .int .u8 0, .int .u8 0] 31)).alloc (.cells #[.int .u8 0, .int .u8 0, .int .u8 0, .int .u8 0] 31)).setRow w2.heap.size (w8 (four q1)).toArray).setRow (w2.heap.size + 1) (w8 (four q2)).toArray) (w2.heap.size + 1) 31 (w8 (four q2))) := Lib.hid (HA2.out.setRow _)
  have HX3 : Hid (Below w.heap.size w ((((w2.alloc (.cells #[.int .u8 0, .int .u8 0, .int .u8 0, .int .u8 0] 31)).alloc (.cells #[.int .u8 0, .int .u8 0, .int .u8 0, .int .u8 0] 31)).setRow w2.heap.size (w8 (four q1)).toArray).setRow (w2.heap.size + 1) (w8 (four q2)).toArray)) := Lib.hid (below_setRow (below_setRow ((HB2.out.alloc HB2.out.size _).alloc (by have := HB2.out.size; simp; omega) _) HB2.out.size _) (by have := HB2.out.size; omega) _)
  clear HA1 HA2
  generalize (((w2.alloc (.cells #[.int .u8 0, .int .u8 0, .int .u8 0, .int .u8 0] 31)).alloc (.cells #[.int .u8 0, .int .u8 0, .int .u8 0, .int .u8 0] 31)).setRow w2.heap.size (w8 (four q1)).toArray).setRow (w2.heap.size + 1) (w8 (four q2)).toArray = W at HX1 HX2 HX3 ⊢
  clear hc72
  go_upto_region 4 with fail
  have HV : Hid (Blk (W.alloc (.cells #[.int .u8 128, .int .u8 0, .int .u8 0, .int .u8 0, .int .u8 0, .int .u8 0, .int .u8 0, .int .u8 0, .int .u8 0, .int .u8 0, .int .u8 0, .int .u8 0, .int .u8 0, .int .u8 0, .int .u8 0, .int .u8 0, .int .u8 0, .int .u8 0, .int .u8 0, .int .u8 0, .int .u8 0, .int .u8 0, .int .u8 0, .int .u8 0, .int .u8 0, .int .u8 0, .int .u8 0, .int .u8 0, .int .u8 0, .int .u8 0, .int .u8 0, .int .u8 0, .int .u8 0, .int .u8 0, .int .u8 0, .int .u8 0, .int .u8 0, .int .u8 0, .int .u8 0, .int .u8 0, .int .u8 0, .int .u8 0, .int .u8 0, .int .u8 0, .int .u8 0, .int .u8 0, .int .u8 0, .int .u8 0, .int .u8 0, .int .u8 0, .int .u8 0, .int .u8 0, .int .u8 0, .int .u8 0, .int .u8 0, .int .u8 0, .int .u8 0, .int .u8 0, .int .u8 0, .int .u8 0, .int .u8 0, .int .u8 0, .int .u8 0, .int .u8 0] 167)) W.heap.size 167 (w8 (128 :: List.replicate 63 0))) := Lib.hid (by
    have h := Blk.new W 167 (w8 (128 :: List.replicate 63 0))
    rw [ztail_eq] at h
    exact h)
  have HV1 : Hid (Below w.heap.size w (W.alloc (.cells #[.int .u8 128, .int .u8 0, .int .u8 0, .int .u8 0, .int .u8 0, .int .u8 0, .int .u8 0, .int .u8 0, .int .u8 0, .int .u8 0, .int .u8 0, .int .u8 0, .int .u8 0, .int .u8 0, .int .u8 0, .int .u8 0, .int .u8 0, .int .u8 0, .int .u8 0, .int .u8 0, .int .u8 0, .int .u8 0, .int .u8 0, .int .u8 0, .int .u8 0, .int .u8 0, .int .u8 0, .int .u8 0, .int .u8 0, .int .u8 0, .int .u8 0, .int .u8 0, .int .u8 0, .int .u8 0, .int .u8 0, .int .u8 0, .int .u8 0, .int .u8 0, .int .u8 0, .int .u8 0, .int .u8 0, .int .u8 0, .int .u8 0, .int .u8 0, .int .u8 0, .int .u8 0, .int .u8 0, .int .u8 0, .int .u8 0, .int .u8 0, .int .u8 0, .int .u8 0, .int .u8 0, .int .u8 0, .int .u8 0, .int .u8 0, .int .u8 0, .int .u8 0, .int .u8 0, .int .u8 0, .int .u8 0, .int .u8 0, .int .u8 0, .int .u8 0] 167))) := Lib.hid (HX3.out.alloc HX3.out.size _)
  have HV2 : Hid (Below W.heap.size W (W.alloc (.cells #[.int .u8 128, .int .u8 0, .int .u8 0, .int .u8 0, .int .u8 0, .int .u8 0, .int .u8 0, .int .u8 0, .int .u8 0, .int .u8 0, .int .u8 0, .int .u8 0, .int .u8 0, .int .u8 0, .int .u8 0, .int .u8 0, .int .u8 0, .int .u8 0, .int .u8 0, .int .u8 0, .int .u8 0, .int .u8 0, .int .u8 0, .int .u8 0, .int .u8 0, .int .u8 0, .int .u8 0, .int .u8 0, .int .u8 0, .int .u8 0, .int .u8 0, .int .u8 0, .int .u8 0, .int .u8 0, .int .u8 0, .int .u8 0, .int .u8 0, .int .u8 0, .int .u8 0, .int .u8 0, .int .u8 0, .int .u8 0, .int .u8 0, .int .u8 0, .int .u8 0, .int .u8 0, .int .u8 0, .int .u8 0, .int .u8 0, .int .u8 0, .int .u8 0, .int .u8 0, .int .u8 0, .int .u8 0, .int .u8 0, .int .u8 0, .int .u8 0, .int .u8 0, .int .u8 0, .int .u8 0, .int .u8 0, .int .u8 0, .int .u8 0, .int .u8 0] 167))) := Lib.hid ((Below.refl _ _).alloc (Nat.le_refl _) _)
  generalize W.alloc (.cells #[.int .u8 128, .int .u8 0, .int .u8 0, .int .u8 0, .int .u8 0, .int .u8 0, .int .u8 0, .int .u8 0, .int .u8 0, .int .u8 0, .int .u8 0, .int .u8 0, .int .u8 0, .int .u8 0, .int .u8 0, .int .u8 0, .int .u8 0, .int .u8 0, .int .u8 0, .int .u8 0, .int .u8 0, .int .u8 0, .int .u8 0, .int .u8 0, .int .u8 0, .int .u8 0, .int .u8 0, .int .u8 0, .int .u8 0, .int .u8 0, .int .u8 0, .int .u8 0, .int .u8 0, .int .u8 0, .int .u8 0, .int .u8 0, .int .u8 0, .int .u8 0, .int .u8 0, .int .u8 0, .int .u8 0, .int .u8 0, .int .u8 0, .int .u8 0, .int .u8 0, .int .u8 0, .int .u8 0, .int .u8 0, .int .u8 0, .int .u8 0, .int .u8 0, .int .u8 0, .int .u8 0, .int .u8 0, .int .u8 0, .int .u8 0, .int .u8 0, .int .u8 0, .int .u8 0, .int .u8 0, .int .u8 0, .int .u8 0, .int .u8 0, .int .u8 0] 167) = V at HV HV1 HV2 ⊢
  have hbw : b < w.heap.size := HR.out.blk.lt
  have hw2 : w.heap.size ≤ w2.heap.size := HB2.out.size
  have HRV : Hid (Rep V b l bs) := Lib.hid ⟨HR.out.blk.below HV1.out hbw, HR.out.len, HR.out.lt, HR.out.rest⟩
  have hc72 := HRV.out.blk.cell 72
  rw [mill_many _ _ _ (wordsAt_length _ _) HR.out.len, HL.out] at hc72
  obtain ⟨k, hk⟩ : ∃ k, 64 - (L + 8) % 64 = k := ⟨_, rfl⟩
  have i3 : 64 - ((L : Int) + 8) % 64 = (k : Int) := by omega
  have k1 : (0 : Int) ≤ (k : Int) := by omega
  have k2 : (k : Int) ≤ 64 := by omega
  have HK : Hid ((tail l.length).length = k) := Lib.hid (by rw [tail_length, HL.out]; exact hk)
  have hk64 : k ≤ 64 := by omega
  have HS1 : Hid (Src V b (some ⟨W.heap.size, 0, none⟩) 64 (tail l.length)) := Lib.hid (Src.blk (rest := w8 (List.replicate ((l.length + 8) % 64) 0)) (by rw [tail_whole]; exact HV.out) (by have := HX3.out.size; omega) (tail_lt _) 64 (by rw [HK.out]; omega))
  have HS2 : Hid (Src V b (some ⟨w2.heap.size, 0, none⟩) 4 (four q1)) := Lib.hid (Src.blk (rest := []) (by rw [List.append_nil]; exact HX1.out.below HV2.out HX1.out.lt) (by omega) (four_lt _ l1) 4 (by simp [four]))
  have HS3 : Hid (Src V b (some ⟨w2.heap.size + 1, 0, none⟩) 4 (four q2)) := Lib.hid (Src.blk (rest := []) (by rw [List.append_nil]; exact HX2.out.below HV2.out HX2.out.lt) (by omega) (four_lt _ l2) 4 (by simp [four]))
  have HTV := Lib.hid (HT.out.below HV1.out HT.out.lt)
  have HGV : Hid (w.grownBy V (some b)) := Lib.hid (only_below (only_refl _ _) HV1.out)
  have HLN : Hid (l.length + (tail l.length).length ≤ 1000000000000) := Lib.hid (by rw [HK.out, HL.out]; omega)
  clear hk
  go_wp2_with fail
  refine (take_any b 64 _ l bs (tail l.length) V HRV HTV hb HS1 HLN (by omega) k HK).mono ?_
  rintro e V1 ⟨rfl, ⟨bs1, hr1⟩, hg1⟩
  have HR1 := Lib.hid hr1
  have HG1 := Lib.hid (only_trans HGV.out hg1)
  have HT1 := Lib.hid (HTV.out.grown hg1 hb)
  have HS21 := Lib.hid (HS2.out.grown hg1)
  have HS31 := Lib.hid (HS3.out.grown hg1)
  have HLN1 : Hid ((l ++ tail l.length).length + (four q1).length ≤ 1000000000000) := Lib.hid (by rw [List.length_append, HK.out, HL.out]; simp [four]; omega)
  clear hr1 hg1 hc72
  go_wp2_with fail
  refine (take_any b 4 _ _ bs1 (four q1) V1 HR1 HT1 hb HS21 HLN1 (by omega) 4 (Lib.hid rfl)).mono ?_
  rintro e V2 ⟨rfl, ⟨bs2, hr1⟩, hg1⟩
  have HR2 := Lib.hid hr1
  have HG2 := Lib.hid (only_trans HG1.out hg1)
  have HT2 := Lib.hid (HT1.out.grown hg1 hb)
  have HS32 := Lib.hid (HS31.out.grown hg1)
  have HLN2 : Hid ((l ++ tail l.length ++ four q1).length + (four q2).length ≤ 1000000000000) := Lib.hid (by rw [List.length_append, List.length_append, HK.out, HL.out]; simp [four]; omega)
  clear hr1 hg1
  go_wp2_with fail
  refine (take_any b 4 _ _ bs2 (four q2) V2 HR2 HT2 hb HS32 HLN2 (by omega) 4 (Lib.hid rfl)).mono ?_
  rintro e V3 ⟨rfl, ⟨bs3, hr1⟩, hg1⟩
  have HR3 := Lib.hid hr1
  have HG3 := Lib.hid (only_trans HG2.out hg1)
  clear hr1 hg1
  go_wp2
  go_end0
  refine ⟨rfl, ⟨bs3, ?_⟩, HG3.out⟩
  have h := HR3.out
  rw [← HQ.out.1, ← HQ.out.2, ← HL.out] at h
  exact h
end Go.Proofs.YtkonokjhpddbfaaDoor
namespace Go.Proofs.YtkonokjhpddbfaaDoor
open Go.RowKit
set_option linter.unusedVariables false

theorem info25 : (Tryd.prog.info? 36).map (·.size) = some 32 := by kernel_rfl
theorem info65 : (Tryd.prog.info? 169).map (·.size) = some 73 := by kernel_rfl
theorem info62 : (Tryd.prog.info? 166).map (·.size) = some 8 := by kernel_rfl

def zsum : Array Value := #[.int .u8 0, .int .u8 0, .int .u8 0, .int .u8 0, .int .u8 0, .int .u8 0, .int .u8 0, .int .u8 0, .int .u8 0, .int .u8 0, .int .u8 0, .int .u8 0, .int .u8 0, .int .u8 0, .int .u8 0, .int .u8 0, .int .u8 0, .int .u8 0, .int .u8 0, .int .u8 0, .int .u8 0, .int .u8 0, .int .u8 0, .int .u8 0, .int .u8 0, .int .u8 0, .int .u8 0, .int .u8 0, .int .u8 0, .int .u8 0, .int .u8 0, .int .u8 0]
theorem zsum_eq : (w8 (List.replicate 32 0)).toArray = zsum := by kernel_rfl
def zmill : Array Value := #[.int .u32 0, .int .u32 0, .int .u32 0, .int .u32 0, .int .u32 0, .int .u32 0, .int .u32 0, .int .u32 0, .int .u8 0, .int .u8 0, .int .u8 0, .int .u8 0, .int .u8 0, .int .u8 0, .int .u8 0, .int .u8 0, .int .u8 0, .int .u8 0, .int .u8 0, .int .u8 0, .int .u8 0, .int .u8 0, .int .u8 0, .int .u8 0, .int .u8 0, .int .u8 0, .int .u8 0, .int .u8 0, .int .u8 0, .int .u8 0, .int .u8 0, .int .u8 0, .int .u8 0, .int .u8 0, .int .u8 0, .int .u8 0, .int .u8 0, .int .u8 0, .int .u8 0, .int .u8 0, .int .u8 0, .int .u8 0, .int .u8 0, .int .u8 0, .int .u8 0, .int .u8 0, .int .u8 0, .int .u8 0, .int .u8 0, .int .u8 0, .int .u8 0, .int .u8 0, .int .u8 0, .int .u8 0, .int .u8 0, .int .u8 0, .int .u8 0, .int .u8 0, .int .u8 0, .int .u8 0, .int .u8 0, .int .u8 0, .int .u8 0, .int .u8 0, .int .u8 0, .int .u8 0, .int .u8 0, .int .u8 0, .int .u8 0, .int .u8 0, .int .u8 0, .int .u8 0, .int .u64 0]
theorem zero65 (w : World) : (zeroValue 169).run Tryd.prog w = .ok (.agg zmill) w := by
  have h : (Tryd.prog.info? 169).map (·.zero) = some (some (.agg zmill)) := by kernel_rfl
  cases hq : Tryd.prog.info? 169 with
  | none => simp [hq] at h
  | some i =>
    have hz : i.zero = some (.agg zmill) := by simpa [hq] using h
    simp [zeroValue, typeInfo, hq, hz]
theorem mill_one (ws bs : List Nat) (n : Nat) : ∀ v ∈ millCells ws bs n, v.oneCell' = true := by
  intro v hv
  simp only [millCells, List.mem_append, List.mem_singleton] at hv
  rcases hv with hv | hv | rfl
  · exact w32_one _ v hv
  · exact w8_one _ v hv
  · rfl
theorem mill_words (ws bs : List Nat) (n : Nat) (h : ws.length = 8) : (millCells ws bs n).take 8 = w32 ws := by
  unfold millCells
  rw [List.take_left' (by rw [w32_length, h])]

theorem slice_sum (g k : Nat) (hk : k < 8) (W : World) : (Instr.sliceAt 36 (.pointer (some ⟨g, 0, none⟩)) (some (.int .i64 (4 * (k : Int)))) none none).run Tryd.prog W = .ok (.slice (some ⟨g, 4 * k, none⟩) (32 - 4 * k) (32 - 4 * k)) W := by
  have h := run_sliceAt_array_l (P := Tryd.prog) W 36 ⟨g, 0, none⟩ (by kernel_rfl) .i64 (4 * (k : Int)) (by omega) (by rw [show Tryd.prog.arrayLen 36 = 32 by kernel_rfl]; omega)
  rw [h, show Tryd.prog.arrayLen 36 = 32 by kernel_rfl, show Tryd.prog.elem 36 = 5 by kernel_rfl]
  obtain ⟨i0, hi, hz0, hz1, hz2⟩ := info_parts (show (Tryd.prog.info? 5).map (fun i => (i.zero, i.size, i.bytes)) = some (some (.int .u8 0), 1, 1) by kernel_rfl)
  have e : ¬ (32 = 4 * k) := by omega
  have e2 : (4 * (k : Int)).toNat = 4 * k := by omega
  simp [sizeOf, typeInfo, hi, hz1, slicedAt, e, e2, Addr.add_mid]

/-- A sum so far. -/
def sumCells (ws : List Nat) (k : Nat) : List Value := w8 ((ws.take k).flatMap four ++ List.replicate (32 - 4 * k) 0)
theorem fours_length (ws : List Nat) : (ws.flatMap four).length = 4 * ws.length := by
  induction ws with
  | nil => rfl
  | cons a r ih => simp [four] at ih ⊢; omega
theorem sumCells_length (ws : List Nat) (k : Nat) (h : ws.length = 8) (hk : k ≤ 8) : (sumCells ws k).length = 32 := by
  unfold sumCells
  rw [w8_length, List.length_append, fours_length, List.length_take, List.length_replicate]
  omega
theorem sumCells_next (ws : List Nat) (k x : Nat) (h : ws.length = 8) (hk : k < 8) (hx : ws.getD k 0 = x) : splice (sumCells ws k) (4 * k) (w8 (four x)) = sumCells ws (k + 1) := by
  unfold splice sumCells
  have e1 : ws.take (k + 1) = ws.take k ++ [x] := by
    rw [List.take_succ_eq_append_getElem (by omega), ← hx]
    simp [List.getD, h, hk]
  have e2 : ((ws.take k).flatMap four).length = 4 * k := by rw [fours_length, List.length_take]; omega
  have e3 : (w8 (four x)).length = 4 := rfl
  rw [e1, e3]
  unfold w8
  rw [← List.map_take, ← List.map_drop, ← List.map_append, ← List.map_append, List.take_left' e2, List.drop_append, List.drop_eq_nil_of_le (by omega), e2, List.drop_replicate, List.flatMap_append]
  congr 1
  simp
  omega
theorem sumCells_end (ws : List Nat) (h : ws.length = 8) : sumCells ws 8 = w8 (ws.flatMap four) := by
  unfold sumCells
  rw [List.take_of_length_le (by omega)]
  simp

set_option maxRecDepth 100000 in
set_option maxHeartbeats 4000000 in
theorem sum_any (b : Nat) (l bs : List Nat) (w : World) (HR : Hid (Rep w b l bs)) (HT : Hid (Tab w)) (hb : b ≠ 0) (HL : Hid (l.length ≤ 100000000000)) :
    Calls Tryd.prog 92 #[.pointer (some ⟨b, 0, none⟩)] w fun e w' => e = .returned (.agg (w8 (sha l)).toArray) ∧ Below w.heap.size w w' := by
  go_enter Tryd.func92, Tryd.ntmps92
  go_upto_region 4 with fail
  have H0 : Hid (Blk ((w.alloc (.cells #[.int .u8 0, .int .u8 0, .int .u8 0, .int .u8 0, .int .u8 0, .int .u8 0, .int .u8 0, .int .u8 0, .int .u8 0, .int .u8 0, .int .u8 0, .int .u8 0, .int .u8 0, .int .u8 0, .int .u8 0, .int .u8 0, .int .u8 0, .int .u8 0, .int .u8 0, .int .u8 0, .int .u8 0, .int .u8 0, .int .u8 0, .int .u8 0, .int .u8 0, .int .u8 0, .int .u8 0, .int .u8 0, .int .u8 0, .int .u8 0, .int .u8 0, .int .u8 0] 36)).alloc (.cells #[.int .u8 0, .int .u8 0, .int .u8 0, .int .u8 0, .int .u8 0, .int .u8 0, .int .u8 0, .int .u8 0, .int .u8 0, .int .u8 0, .int .u8 0, .int .u8 0, .int .u8 0, .int .u8 0, .int .u8 0, .int .u8 0, .int .u8 0, .int .u8 0, .int .u8 0, .int .u8 0, .int .u8 0, .int .u8 0, .int .u8 0, .int .u8 0, .int .u8 0, .int .u8 0, .int .u8 0, .int .u8 0, .int .u8 0, .int .u8 0, .int .u8 0, .int .u8 0] 36)) w.heap.size 36 (w8 (List.replicate 32 0))) := Lib.hid (by
    have h := (Blk.new w 36 (w8 (List.replicate 32 0))).alloc (.cells (w8 (List.replicate 32 0)).toArray 36)
    rw [zsum_eq] at h
    exact h)
  have H1 : Hid (Blk ((w.alloc (.cells #[.int .u8 0, .int .u8 0, .int .u8 0, .int .u8 0, .int .u8 0, .int .u8 0, .int .u8 0, .int .u8 0, .int .u8 0, .int .u8 0, .int .u8 0, .int .u8 0, .int .u8 0, .int .u8 0, .int .u8 0, .int .u8 0, .int .u8 0, .int .u8 0, .int .u8 0, .int .u8 0, .int .u8 0, .int .u8 0, .int .u8 0, .int .u8 0, .int .u8 0, .int .u8 0, .int .u8 0, .int .u8 0, .int .u8 0, .int .u8 0, .int .u8 0, .int .u8 0] 36)).alloc (.cells #[.int .u8 0, .int .u8 0, .int .u8 0, .int .u8 0, .int .u8 0, .int .u8 0, .int .u8 0, .int .u8 0, .int .u8 0, .int .u8 0, .int .u8 0, .int .u8 0, .int .u8 0, .int .u8 0, .int .u8 0, .int .u8 0, .int .u8 0, .int .u8 0, .int .u8 0, .int .u8 0, .int .u8 0, .int .u8 0, .int .u8 0, .int .u8 0, .int .u8 0, .int .u8 0, .int .u8 0, .int .u8 0, .int .u8 0, .int .u8 0, .int .u8 0, .int .u8 0] 36)) (w.heap.size + 1) 36 (w8 (List.replicate 32 0))) := Lib.hid (by
    have h := Blk.new (w.alloc (.cells (w8 (List.replicate 32 0)).toArray 36)) 36 (w8 (List.replicate 32 0))
    rw [zsum_eq, World.size_alloc] at h
    exact h)
  have H2 : Hid (Below w.heap.size w ((w.alloc (.cells #[.int .u8 0, .int .u8 0, .int .u8 0, .int .u8 0, .int .u8 0, .int .u8 0, .int .u8 0, .int .u8 0, .int .u8 0, .int .u8 0, .int .u8 0, .int .u8 0, .int .u8 0, .int .u8 0, .int .u8 0, .int .u8 0, .int .u8 0, .int .u8 0, .int .u8 0, .int .u8 0, .int .u8 0, .int .u8 0, .int .u8 0, .int .u8 0, .int .u8 0, .int .u8 0, .int .u8 0, .int .u8 0, .int .u8 0, .int .u8 0, .int .u8 0, .int .u8 0] 36)).alloc (.cells #[.int .u8 0, .int .u8 0, .int .u8 0, .int .u8 0, .int .u8 0, .int .u8 0, .int .u8 0, .int .u8 0, .int .u8 0, .int .u8 0, .int .u8 0, .int .u8 0, .int .u8 0, .int .u8 0, .int .u8 0, .int .u8 0, .int .u8 0, .int .u8 0, .int .u8 0, .int .u8 0, .int .u8 0, .int .u8 0, .int .u8 0, .int .u8 0, .int .u8 0, .int .u8 0, .int .u8 0, .int .u8 0, .int .u8 0, .int .u8 0, .int .u8 0, .int .u8 0] 36))) := Lib.hid (((Below.refl _ _).alloc (Nat.le_refl _) _).alloc (by simp) _)
  generalize (w.alloc (.cells #[.int .u8 0, .int .u8 0, .int .u8 0, .int .u8 0, .int .u8 0, .int .u8 0, .int .u8 0, .int .u8 0, .int .u8 0, .int .u8 0, .int .u8 0, .int .u8 0, .int .u8 0, .int .u8 0, .int .u8 0, .int .u8 0, .int .u8 0, .int .u8 0, .int .u8 0, .int .u8 0, .int .u8 0, .int .u8 0, .int .u8 0, .int .u8 0, .int .u8 0, .int .u8 0, .int .u8 0, .int .u8 0, .int .u8 0, .int .u8 0, .int .u8 0, .int .u8 0] 36)).alloc (.cells #[.int .u8 0, .int .u8 0, .int .u8 0, .int .u8 0, .int .u8 0, .int .u8 0, .int .u8 0, .int .u8 0, .int .u8 0, .int .u8 0, .int .u8 0, .int .u8 0, .int .u8 0, .int .u8 0, .int .u8 0, .int .u8 0, .int .u8 0, .int .u8 0, .int .u8 0, .int .u8 0, .int .u8 0, .int .u8 0, .int .u8 0, .int .u8 0, .int .u8 0, .int .u8 0, .int .u8 0, .int .u8 0, .int .u8 0, .int .u8 0, .int .u8 0, .int .u8 0] 36) = V at H0 H1 H2 ⊢
  have hbw : b < w.heap.size := HR.out.blk.lt
  have hV : w.heap.size + 1 < V.heap.size := H1.out.lt
  have HMB := Lib.hid (HR.out.blk.below H2.out hbw)
  have HRG := Lib.hid HMB.out.all
  have hml := mill_length (wordsAt l (l.length / 64)) bs l.length (wordsAt_length _ _) HR.out.len
  have HS1 : Hid ((Tryd.prog.info? 169).map (·.size) = some (millCells (wordsAt l (l.length / 64)) bs l.length).length) := Lib.hid (by rw [hml]; exact info65)
  have HS2 : Hid ((Tryd.prog.info? 169).map (·.size) = some (millCells (wordsAt l (l.length / 64)) bs l.length).toArray.size) := Lib.hid (by rw [List.size_toArray, hml]; exact info65)
  have HZ : Hid (zmill.size = (millCells (wordsAt l (l.length / 64)) bs l.length).toArray.size) := Lib.hid (by have hz : zmill.size = 73 := rfl; rw [hz, List.size_toArray, hml])
  have HO := Lib.hid (all_oneCell_toArray (mill_one (wordsAt l (l.length / 64)) bs l.length))
  have HLA := Lib.hid (heap_alloc_last V (.cells zmill 169))
  have hz65 := zero65
  clear hml
  go_wp2_with (first | (refine wpList_load_mid rfl 169 (.tmp 12) rfl b 0 rfl (millCells (wordsAt l (l.length / 64)) bs l.length) _ HRG.out Tryd.underlying169 rfl HS1.out ?_) | (refine wpList_store_row rfl 169 (.tmp 4) (.tmp 13) rfl V.heap.size (millCells (wordsAt l (l.length / 64)) bs l.length).toArray rfl rfl 169 _ HLA.out HS2.out HZ.out HO.out ?_; rw [World.setRow_alloc_new]))
  have HB1 := Lib.hid (Blk.new V 169 (millCells (wordsAt l (l.length / 64)) bs l.length))
  have HB2 := Lib.hid ((Below.refl V.heap.size V).alloc (Nat.le_refl _) (.cells (millCells (wordsAt l (l.length / 64)) bs l.length).toArray 169))
  generalize V.alloc (.cells (millCells (wordsAt l (l.length / 64)) bs l.length).toArray 169) = V1 at HB1 HB2 ⊢
  clear hz65
  have HR1 : Hid (Rep V1 V.heap.size l bs) := Lib.hid ⟨HB1.out, HR.out.len, HR.out.lt, HR.out.rest⟩
  have HT1 : Hid (Tab V1) := Lib.hid ((HT.out.below H2.out HT.out.lt).below HB2.out (by omega))
  refine (end_any V.heap.size l.length l bs V1 HR1 HT1 (by omega) (Lib.hid rfl) HL.out).mono ?_
  rintro e V2 ⟨rfl, ⟨bs2, hr2⟩, hg2⟩
  have HR2 := Lib.hid hr2
  have H02 := Lib.hid ((H0.out.below HB2.out (by omega)).grown hg2 (by intro he; injection he with he; omega))
  have H12 := Lib.hid ((H1.out.below HB2.out (by omega)).grown hg2 (by intro he; injection he with he; omega))
  have HW2 : Hid (Below w.heap.size w V2) := Lib.hid ((H2.out.trans (HB2.out.mono (by omega))).trans (only_up hg2 (by omega) (by have := HB2.out.size; omega)))
  obtain ⟨ws, hws⟩ : ∃ ws, wordsAt (pad l) ((pad l).length / 64) = ws := ⟨_, rfl⟩
  have HWS : Hid (ws.length = 8 ∧ (∀ x ∈ ws, x < 4294967296) ∧ sha l = ws.flatMap four) := Lib.hid ⟨by rw [← hws]; exact wordsAt_length _ _, by rw [← hws]; exact wordsAt_lt _ _, by rw [← hws]; rfl⟩
  have HRW : Hid (V2.rangeAt V.heap.size 0 (w32 ws)) := Lib.hid (by
    have h := HR2.out.blk.range 0 8
    rw [List.drop_zero, mill_words _ _ _ (wordsAt_length _ _), hws] at h
    exact h)
  have HI2 : Hid ((Tryd.prog.info? 166).map (·.size) = some (w32 ws).length) := Lib.hid (by rw [w32_length, HWS.out.1]; exact info62)
  clear hr2 hg2 hws
  go_wp2_with (first | (refine wpList_load_mid rfl 166 (.tmp 15) rfl V.heap.size 0 rfl (w32 ws) _ HRW.out Tryd.underlying166 rfl HI2.out ?_))
  go_loopw [17] (fun i wr => ∃ (k : Nat), k ≤ 8 ∧ i = .int .i64 k ∧ Hid (Blk wr w.heap.size 36 (w8 (List.replicate 32 0))) ∧ Hid (Blk wr (w.heap.size + 1) 36 (sumCells ws k)) ∧ Hid (Below w.heap.size w wr)) (fun i _ => 8 - (intOf i).toNat)
  case atStart => exact ⟨0, Nat.zero_le _, rfl, H02, H12, HW2⟩
  case round =>
    obtain ⟨k, hk, rfl, H03, H13, HW3⟩ := hrel
    by_cases hlt : k < 8
    · obtain ⟨x, hx⟩ : ∃ x, ws.getD k 0 = x := ⟨_, rfl⟩
      have hix := fun W => index_eight ws k hlt HWS.out.1 W
      simp only [hx] at hix
      have lx : x < 4294967296 := by rw [← hx]; exact getD_lt (by omega) HWS.out.2.1 k
      have HNX := Lib.hid (sumCells_next ws k x HWS.out.1 hlt hx)
      have i0 : (0 : Int) ≤ (k : Int) := by omega
      have i1 : (k : Int) < 8 := by omega
      have hs1 := slice_sum (w.heap.size + 1) k hlt
      clear hx
      go_wp2_with fail
      refine (bytesOf_any x _ lx).mono ?_
      rintro e w4 ⟨rfl, hB4⟩
      have HB4 := Lib.hid hB4
      have HLA4 := Lib.hid (heap_alloc_last w4 (.cells zfour 31))
      have HS4 : Hid ((Tryd.prog.info? 31).map (·.size) = some (w8 (four x)).toArray.size) := Lib.hid info52
      have HO4 := Lib.hid (all_oneCell_toArray (w8_one (four x)))
      have h1w : w.heap.size + 1 < wr.heap.size := H13.out.lt
      have h4w : wr.heap.size ≤ w4.heap.size := HB4.out.size
      clear hB4
      go_upto_region 10 with (first | (refine wpList_store_row rfl 31 (.tmp 7) (.tmp 22) rfl w4.heap.size (w8 (four x)).toArray rfl rfl 31 _ HLA4.out HS4.out rfl HO4.out ?_; rw [World.setRow_alloc_new]))
      have HF5 := Lib.hid (Blk.new w4 31 (w8 (four x)))
      have HB5 : Hid (Below wr.heap.size wr (w4.alloc (.cells (w8 (four x)).toArray 31))) := Lib.hid (HB4.out.alloc HB4.out.size _)
      generalize w4.alloc (.cells (w8 (four x)).toArray 31) = V5 at HF5 HB5 ⊢
      have H05 := Lib.hid (H03.out.below HB5.out (by omega))
      have H15 : Hid (Blk V5.drew (w.heap.size + 1) 36 (sumCells ws k)) := Lib.hid (H13.out.below HB5.out.drew (by omega))
      have HW5 := Lib.hid (HW3.out.trans (HB5.out.mono (by omega)))
      have HMN : Hid (4 = Nat.min 4 (32 - 4 * k)) := Lib.hid (by show 4 = min 4 (32 - 4 * k); omega)
      have HCS : Hid (∀ j v, (w8 (four x))[j]? = some v → V5.drew.cell? ((⟨w4.heap.size, 0, none⟩ : Addr).add j) = some v) := Lib.hid (by
        intro j v hv
        rw [Addr.add_mid, Nat.zero_add]
        exact (HF5.out.cell j).trans hv)
      have HFI : Hid (4 * k + 4 ≤ (sumCells ws k).length) := Lib.hid (by rw [sumCells_length ws k HWS.out.1 (by omega)]; omega)
      have HO8 := Lib.hid (w8_one (four x))
      have hwr : IntKind.i64.wrap (4 * (k : Int)) = 4 * (k : Int) := IntWalk.i64_in _ (by omega)
      go_region_law (refine step_copy_at rfl (.tmp 25) (.tmp 26) 30 30 rfl 5 Tryd.underlying30 info5 (w.heap.size + 1) (4 * k) (32 - 4 * k) (32 - 4 * k) ⟨w4.heap.size, 0, none⟩ 4 4 (by rfl) (by rfl) _ 36 H15.out (w8 (four x)) 4 rfl HMN.out HCS.out HFI.out HO8.out ?_; intro w6 HB6 HG6)
      all_goals
        have H06 := Lib.hid ((H05.out.drewN 1).grown HG6.out (by intro he; injection he with he; omega))
        have HW6 : Hid (Below w.heap.size w w6) := Lib.hid (HW5.out.drew.trans (only_up HG6.out (by omega) (by have := HW5.out.size; exact this)))
        rw [HNX.out] at HB6
        clear hs1 hix hwr
        go_wp2
        go_roundw
        case rel => exact ⟨k + 1, by omega, by go_num, H06, HB6, HW6⟩
        case measure => simp [intOf]; omega
    · obtain rfl : k = 8 := by omega
      have HD := Lib.hid (sumCells_end ws HWS.out.1)
      rw [HD.out, ← HWS.out.2.2] at H13
      have HRG2 := Lib.hid H13.out.all
      have HS5 : Hid ((Tryd.prog.info? 36).map (·.size) = some (w8 (sha l)).length) := Lib.hid (by rw [w8_length, sha_length]; exact info25)
      have HS6 : Hid ((Tryd.prog.info? 36).map (·.size) = some (w8 (sha l)).toArray.size) := Lib.hid (by rw [List.size_toArray, w8_length, sha_length]; exact info25)
      have HZ6 : Hid ((w8 (List.replicate 32 0)).toArray.size = (w8 (sha l)).toArray.size) := Lib.hid (by rw [List.size_toArray, List.size_toArray, w8_length, w8_length, sha_length]; simp)
      have HO6 := Lib.hid (all_oneCell_toArray (w8_one (sha l)))
      clear HD
      go_wp2_with (first | (refine wpList_load_mid rfl 36 (.tmp 3) rfl (w.heap.size + 1) 0 rfl (w8 (sha l)) _ HRG2.out Tryd.underlying36 rfl HS5.out ?_) | (refine wpList_store_row rfl 36 (.tmp 2) (.tmp 29) rfl w.heap.size (w8 (sha l)).toArray rfl rfl 36 _ H03.out HS6.out HZ6.out HO6.out ?_))
      exact bodyPost_ret (v := .agg (w8 (sha l)).toArray) (results_cell_row Tryd.results92 _ _ w.heap.size 36 (w8 (sha l)).toArray (0, 0) _ rfl (H03.out.setRow _) Tryd.underlying36 rfl HS6.out) rfl ⟨rfl, below_setRow HW3.out (by omega) _⟩
end Go.Proofs.YtkonokjhpddbfaaDoor
namespace Go.Proofs.YtkonokjhpddbfaaDoor
open Go.RowKit
set_option linter.unusedVariables false

/-- Some parts that are read, outside block b. -/
structure Parts (w : World) (b : Nat) (A : Option Addr) (ps : List (List Nat)) : Prop where
  at_ : ps = [] ∨ ∃ g off, A = some ⟨g, off, none⟩ ∧ g < w.heap.size ∧ g ≠ b ∧ ∀ i, i < ps.length → ∃ Ai ci, w.cell? ⟨g, off + i, none⟩ = some (.slice Ai (ps.getD i []).length ci) ∧ ci ≤ 9223372036854775807 ∧ Src w b Ai ci (ps.getD i [])

theorem Parts.grown {w w' : World} {b : Nat} {A : Option Addr} {ps : List (List Nat)} (h : Parts w b A ps) (hg : w.grownBy w' (some b)) : Parts w' b A ps := by
  refine ⟨?_⟩
  rcases h.at_ with h1 | ⟨g, off, h1, h2, h3, h4⟩
  · exact .inl h1
  · refine .inr ⟨g, off, h1, Nat.lt_of_lt_of_le h2 hg.size, h3, fun i hi => ?_⟩
    obtain ⟨Ai, ci, h5, h6, h7⟩ := h4 i hi
    refine ⟨Ai, ci, ?_, h6, h7.grown hg⟩
    rw [← h5]
    exact World.cell?_of_block (hg.block g h2 (fun e => h3 (by injection e)))
theorem Parts.below {w w' : World} {b : Nat} {A : Option Addr} {ps : List (List Nat)} (h : Parts w b A ps) (hB : Below w.heap.size w w') : Parts w' b A ps := by
  refine ⟨?_⟩
  rcases h.at_ with h1 | ⟨g, off, h1, h2, h3, h4⟩
  · exact .inl h1
  · refine .inr ⟨g, off, h1, Nat.lt_of_lt_of_le h2 hB.size, h3, fun i hi => ?_⟩
    obtain ⟨Ai, ci, h5, h6, h7⟩ := h4 i hi
    refine ⟨Ai, ci, ?_, h6, h7.below hB⟩
    rw [← h5]
    exact hB.cell (p := ⟨g, off + i, none⟩) h2
theorem Src.new {w : World} {b b' : Nat} {A : Option Addr} {c : Nat} {l : List Nat} (h : Src w b A c l) (hb : w.heap.size ≤ b') : Src w b' A c l := by
  refine ⟨h.le, ?_, h.lt⟩
  rcases h.at_ with h1 | ⟨g, off, h1, h2, h3, h4⟩
  · exact .inl h1
  · exact .inr ⟨g, off, h1, h2, by omega, h4⟩
theorem Parts.new {w : World} {b b' : Nat} {A : Option Addr} {ps : List (List Nat)} (h : Parts w b A ps) (hb : w.heap.size ≤ b') : Parts w b' A ps := by
  refine ⟨?_⟩
  rcases h.at_ with h1 | ⟨g, off, h1, h2, h3, h4⟩
  · exact .inl h1
  · refine .inr ⟨g, off, h1, h2, by omega, fun i hi => ?_⟩
    obtain ⟨Ai, ci, h5, h6, h7⟩ := h4 i hi
    exact ⟨Ai, ci, h5, h6, h7.new hb⟩

theorem flatten_take (ps : List (List Nat)) (k : Nat) (hk : k < ps.length) : (ps.take (k + 1)).flatten = (ps.take k).flatten ++ ps.getD k [] := by
  rw [List.take_succ_eq_append_getElem hk, List.flatten_append]
  simp [List.getD, hk]
theorem flatten_le (ps : List (List Nat)) (k : Nat) (hk : k < ps.length) : (ps.take k).flatten.length + (ps.getD k []).length ≤ ps.flatten.length := by
  have h : ps.flatten = (ps.take (k + 1)).flatten ++ (ps.drop (k + 1)).flatten := by rw [← List.flatten_append, List.take_append_drop]
  rw [h, flatten_take ps k hk]
  simp

set_option maxRecDepth 100000 in
set_option maxHeartbeats 4000000 in
theorem write_any (b m c : Nat) (A : Option Addr) (l bs : List Nat) (ps : List (List Nat)) (w : World) (HR : Hid (Rep w b l bs)) (HT : Hid (Tab w)) (hb : b ≠ 0) (HP : Hid (Parts w b A ps)) (HM : Hid (ps.length = m)) (hm : m ≤ 9223372036854775807) (HN : Hid (l.length + ps.flatten.length ≤ 1000000000000)) :
    Calls Tryd.prog 91 #[.pointer (some ⟨b, 0, none⟩), .slice A m c] w (Took w b (l ++ ps.flatten)) := by
  go_enter Tryd.func91, Tryd.ntmps91
  go_wp2_with fail
  go_loopw [10, 5] (fun i _ wr => ∃ (k : Nat) (bs' : List Nat), k ≤ m ∧ i = .int .i64 k ∧ Hid (Rep wr b (l ++ (ps.take k).flatten) bs') ∧ Hid (w.grownBy wr (some b))) (fun i _ _ => m - (intOf i).toNat)
  case atStart => exact ⟨0, bs, Nat.zero_le _, rfl, Lib.hid (by simpa using HR.out), Lib.hid (only_refl _ _)⟩
  case round =>
    obtain ⟨k, bs', hk, rfl, HR', HG⟩ := hrel
    by_cases hlt : k < m
    · have hkp : k < ps.length := by rw [HM.out]; exact hlt
      rcases (HP.out.grown HG.out).at_ with h0 | ⟨g, off, rfl, hg, hgb, hc⟩
      · rw [h0] at hkp
        simp at hkp
      obtain ⟨Ai, ci, hcell, hci, hsrc⟩ := hc k hkp
      obtain ⟨x, hx⟩ : ∃ x, ps.getD k [] = x := ⟨_, rfl⟩
      obtain ⟨n, hn⟩ : ∃ n, x.length = n := ⟨_, rfl⟩
      rw [hx, hn] at hcell
      rw [hx] at hsrc
      have HS := Lib.hid hsrc
      have HTK : Hid ((ps.take (k + 1)).flatten = (ps.take k).flatten ++ x) := Lib.hid (by rw [flatten_take ps k hkp, hx])
      have HLN : Hid ((l ++ (ps.take k).flatten).length + x.length ≤ 1000000000000) := Lib.hid (by have h1 := flatten_le ps k hkp; rw [hx] at h1; have h2 := HN.out; rw [List.length_append]; omega)
      have HX := Lib.hid hn
      clear hc hsrc hx hn hkp
      go_wp2_with fail
      refine (take_any b ci Ai _ bs' x wr HR' (Lib.hid (HT.out.grown HG.out hb)) hb HS HLN hci n HX).mono ?_
      rintro e w4 ⟨rfl, ⟨bs4, hr4⟩, hg4⟩
      rw [List.append_assoc, ← HTK.out] at hr4
      have HR4 := Lib.hid hr4
      have HG4 := Lib.hid (only_trans HG.out hg4)
      clear hr4 hg4 hcell
      go_wp2
      go_roundw
      case rel => exact ⟨k + 1, bs4, by omega, by go_num, HR4, HG4⟩
      case measure => simp [intOf]; omega
    · have htk : ps.take k = ps := List.take_of_length_le (by rw [HM.out]; omega)
      rw [htk] at HR'
      clear htk
      go_wp2
      go_end0
      exact ⟨rfl, ⟨bs', HR'.out⟩, HG.out⟩

theorem fresh_eq : ((((((((zmill.setIfInBounds 0 (Value.int IntKind.u32 1779033703)).setIfInBounds 1 (Value.int IntKind.u32 3144134277)).setIfInBounds 2 (Value.int IntKind.u32 1013904242)).setIfInBounds 3 (Value.int IntKind.u32 2773480762)).setIfInBounds 4 (Value.int IntKind.u32 1359893119)).setIfInBounds 5 (Value.int IntKind.u32 2600822924)).setIfInBounds 6 (Value.int IntKind.u32 528734635)).setIfInBounds 7 (Value.int IntKind.u32 1541459225)) = (millCells firsts (List.replicate 64 0) 0).toArray := by kernel_rfl

theorem rep_new (w : World) : Rep (w.alloc (.cells (millCells firsts (List.replicate 64 0) 0).toArray 169)) w.heap.size [] (List.replicate 64 0) :=
  ⟨Blk.new w 169 _, by simp, by simp, by simp⟩

set_option maxRecDepth 100000 in
theorem new_any (w : World) : Calls Tryd.prog 90 #[] w fun e w' => e = .returned (.pointer (some ⟨w.heap.size, 0, none⟩)) ∧ Rep w' w.heap.size [] (List.replicate 64 0) ∧ Below w.heap.size w w' := by
  have hz65 := zero65
  have hzs : ¬ zmill.size < 8 := by have hz : zmill.size = 73 := rfl; rw [hz]; omega
  have HR := Lib.hid (rep_new w)
  go_enter Tryd.func90, Tryd.ntmps90
  go_wp2
  go_ret
  rw [fresh_eq]
  exact ⟨rfl, HR.out, (Below.refl _ _).alloc (Nat.le_refl _) _⟩

/-- A sum of nothing at all. -/
def noSum : List Nat := List.replicate 32 0

set_option maxRecDepth 100000 in
set_option maxHeartbeats 2000000 in
theorem of_any (m c b : Nat) (A : Option Addr) (ps : List (List Nat)) (w : World) (HT : Hid (Tab w)) (HP : Hid (Parts w b A ps)) (HM : Hid (ps.length = m)) (hm : m ≤ 9223372036854775807) (HN : Hid (ps.flatten.length ≤ 100000000000)) :
    Calls Tryd.prog 64 #[.slice A m c] w fun e w' => e = .returned (.agg (w8 (sha ps.flatten)).toArray) ∧ Below w.heap.size w w' := by
  go_enter Tryd.func64, Tryd.ntmps64
  go_upto_region 1 with fail
  have H0 : Hid (Blk (w.alloc (.cells #[.int .u8 0, .int .u8 0, .int .u8 0, .int .u8 0, .int .u8 0, .int .u8 0, .int .u8 0, .int .u8 0, .int .u8 0, .int .u8 0, .int .u8 0, .int .u8 0, .int .u8 0, .int .u8 0, .int .u8 0, .int .u8 0, .int .u8 0, .int .u8 0, .int .u8 0, .int .u8 0, .int .u8 0, .int .u8 0, .int .u8 0, .int .u8 0, .int .u8 0, .int .u8 0, .int .u8 0, .int .u8 0, .int .u8 0, .int .u8 0, .int .u8 0, .int .u8 0] 36)) w.heap.size 36 (w8 noSum)) := Lib.hid (by
    have h := Blk.new w 36 (w8 (List.replicate 32 0))
    rw [zsum_eq] at h
    exact h)
  have H2 : Hid (Below w.heap.size w (w.alloc (.cells #[.int .u8 0, .int .u8 0, .int .u8 0, .int .u8 0, .int .u8 0, .int .u8 0, .int .u8 0, .int .u8 0, .int .u8 0, .int .u8 0, .int .u8 0, .int .u8 0, .int .u8 0, .int .u8 0, .int .u8 0, .int .u8 0, .int .u8 0, .int .u8 0, .int .u8 0, .int .u8 0, .int .u8 0, .int .u8 0, .int .u8 0, .int .u8 0, .int .u8 0, .int .u8 0, .int .u8 0, .int .u8 0, .int .u8 0, .int .u8 0, .int .u8 0, .int .u8 0] 36))) := Lib.hid ((Below.refl _ _).alloc (Nat.le_refl _) _)
  generalize w.alloc (.cells #[.int .u8 0, .int .u8 0, .int .u8 0, .int .u8 0, .int .u8 0, .int .u8 0, .int .u8 0, .int .u8 0, .int .u8 0, .int .u8 0, .int .u8 0, .int .u8 0, .int .u8 0, .int .u8 0, .int .u8 0, .int .u8 0, .int .u8 0, .int .u8 0, .int .u8 0, .int .u8 0, .int .u8 0, .int .u8 0, .int .u8 0, .int .u8 0, .int .u8 0, .int .u8 0, .int .u8 0, .int .u8 0, .int .u8 0, .int .u8 0, .int .u8 0, .int .u8 0] 36) = V at H0 H2 ⊢
  have hV : w.heap.size < V.heap.size := H0.out.lt
  go_wp2_with fail
  refine (new_any _).mono ?_
  rintro e V1 ⟨rfl, hr1, hB1⟩
  have HR1 := Lib.hid hr1
  have HB1 := Lib.hid hB1
  have HW1 := Lib.hid (H2.out.trans (hB1.mono (by omega)))
  have HT1 := Lib.hid (HT.out.below HW1.out HT.out.lt)
  have HP1 := Lib.hid ((HP.out.new (b' := V.heap.size) (by omega)).below HW1.out)
  have HN1 : Hid (([] : List Nat).length + ps.flatten.length ≤ 1000000000000) := Lib.hid (by have := HN.out; simp only [List.length_nil]; omega)
  have h01 := H0.out.below hB1 hV
  have H01 := Lib.hid h01
  clear hr1 hB1 h01
  go_wp2_with fail
  refine (write_any V.heap.size m c A [] _ ps V1 HR1 HT1 (by omega) HP1 HM hm HN1).mono ?_
  rintro e V2 ⟨rfl, ⟨bs2, hr2⟩, hg2⟩
  rw [List.nil_append] at hr2
  have HR2 := Lib.hid hr2
  have HT2 := Lib.hid (HT1.out.grown hg2 (by omega))
  have H02 := Lib.hid (H01.out.grown hg2 (by intro he; injection he with he; omega))
  have HW2 := Lib.hid (HW1.out.trans (only_up hg2 (Nat.le_of_lt hV) HW1.out.size))
  clear hr2 hg2
  go_wp2_with fail
  refine (sum_any V.heap.size _ bs2 V2 HR2 HT2 (by omega) HN).mono ?_
  rintro e V3 ⟨rfl, hB3⟩
  have h2w : w.heap.size < V2.heap.size := H02.out.lt
  have H03 := Lib.hid (H02.out.below hB3 h2w)
  have HW3 := Lib.hid (HW2.out.trans (hB3.mono (by omega)))
  have HS6 : Hid ((Tryd.prog.info? 36).map (·.size) = some (w8 (sha ps.flatten)).toArray.size) := Lib.hid (by rw [List.size_toArray, w8_length, sha_length]; exact info25)
  have HZ6 : Hid ((w8 noSum).toArray.size = (w8 (sha ps.flatten)).toArray.size) := Lib.hid (by rw [List.size_toArray, List.size_toArray, w8_length, w8_length, sha_length]; simp [noSum])
  have HO6 := Lib.hid (all_oneCell_toArray (w8_one (sha ps.flatten)))
  clear hB3
  go_wp2_with (first | (refine wpList_store_row rfl 36 (.tmp 2) (.tmp 9) rfl w.heap.size (w8 (sha ps.flatten)).toArray rfl rfl 36 _ H03.out HS6.out HZ6.out HO6.out ?_))
  exact bodyPost_ret (v := .agg (w8 (sha ps.flatten)).toArray) (results_cell_row Tryd.results64 _ _ w.heap.size 36 (w8 (sha ps.flatten)).toArray (0, 0) _ rfl (H03.out.setRow _) Tryd.underlying36 rfl HS6.out) rfl ⟨rfl, below_setRow HW3.out (Nat.le_refl _) _⟩
end Go.Proofs.YtkonokjhpddbfaaDoor
namespace Go.Proofs.YtkonokjhpddbfaaDoor
open Go.RowKit
set_option linter.unusedVariables false

theorem Parts.one {w : World} {b g : Nat} {t : TypeId} {Ai : Option Addr} {ci n : Nat} {x : List Nat} (h : Blk w g t [.slice Ai n ci]) (hn : n = x.length) (hb : g ≠ b) (hc : ci ≤ 9223372036854775807) (hs : Src w b Ai ci x) : Parts w b (some ⟨g, 0, none⟩) [x] := by
  subst hn
  refine ⟨.inr ⟨g, 0, rfl, h.lt, hb, fun i hi => ?_⟩⟩
  obtain rfl : i = 0 := by simpa using hi
  exact ⟨Ai, ci, by rw [h.cell]; rfl, hc, hs⟩

end Go.Proofs.YtkonokjhpddbfaaDoor
namespace Go.Proofs.YtkonokjhpddbfaaDoor
open Go.RowKit
set_option linter.unusedVariables false

theorem part_byte (l : List Nat) (i : Nat) (hi : i < l.length) (w : World) : (Go.part 5 (w8 l).toArray (i * 1)).run Tryd.prog w = .ok (.int .u8 ((l.getD i 0 : Nat) : Int)) w := by
  have h := w8_get l i hi
  simp [Go.part, isAgg, run_underlying Tryd.underlying5, h]

theorem eq_items (a b : List Nat) (n : Nat) (ha : a.length = n) (hb : b.length = n) (d : Nat) (w : World) : ∀ (k : Nat) (is : List Nat), is = (List.range n).drop (n - k) → k ≤ n →
    (Op.eqItems (d + 1) 5 1 (w8 a).toArray (w8 b).toArray is).run Tryd.prog w = .ok (decide (a.drop (n - k) = b.drop (n - k))) w
  | 0, is, he, _ => by
    subst he
    rw [List.drop_eq_nil_of_le (by simp), List.drop_eq_nil_of_le (by omega), List.drop_eq_nil_of_le (by omega)]
    simp [Op.eqItems]
  | k + 1, is, he, hk => by
    have e1 : n - k = n - (k + 1) + 1 := by omega
    have e2 : (List.range n).drop (n - (k + 1)) = (n - (k + 1)) :: (List.range n).drop (n - k) := by
      rw [List.drop_eq_getElem_cons (by simp; omega), ← e1]
      simp
    have ih := eq_items a b n ha hb d w k _ rfl (by omega)
    subst he
    rw [e2]
    have ga := part_byte a (n - (k + 1)) (by omega) w
    have gb := part_byte b (n - (k + 1)) (by omega) w
    have hi := run_equalIn_int (P := Tryd.prog) w d 5 .u8 .u8 ((a.getD (n - (k + 1)) 0 : Nat) : Int) ((b.getD (n - (k + 1)) 0 : Nat) : Int) Tryd.underlying5
    simp only [Op.eqItems, Sem.run_bind, ga, gb, hi, Result.andThen_ok]
    rw [List.drop_eq_getElem_cons (by omega : n - (k + 1) < a.length), List.drop_eq_getElem_cons (by omega : n - (k + 1) < b.length), ← e1]
    have xa : a.getD (n - (k + 1)) 0 = a[n - (k + 1)]'(by omega) := by simp [List.getD, show n - (k + 1) < a.length by omega]
    have xb : b.getD (n - (k + 1)) 0 = b[n - (k + 1)]'(by omega) := by simp [List.getD, show n - (k + 1) < b.length by omega]
    rw [xa, xb]
    by_cases hx : a[n - (k + 1)]'(by omega) = b[n - (k + 1)]'(by omega)
    · rw [hx]
      simp [ih]
    · have hx2 : ¬ ((a[n - (k + 1)]'(by omega) : Nat) : Int) = ((b[n - (k + 1)]'(by omega) : Nat) : Int) := by omega
      simp [hx, hx2]

theorem equal_row {t n : Nat} (ht : Tryd.prog.underlying t = some (.array n 5)) (a b : List Nat) (ha : a.length = n) (hb : b.length = n) (w : World) : (Op.equalIn 10000 t (.agg (w8 a).toArray) (.agg (w8 b).toArray)).run Tryd.prog w = .ok (decide (a = b)) w := by
  obtain ⟨i0, hi, hz0, hz1, hz2⟩ := info_parts (show (Tryd.prog.info? 5).map (fun i => (i.zero, i.size, i.bytes)) = some (some (.int .u8 0), 1, 1) by kernel_rfl)
  have h := run_equalIn_array (P := Tryd.prog) w 9999 (w8 a).toArray (w8 b).toArray ht hi
  rw [h, show Tryd.prog.cellsOf 5 = 1 by kernel_rfl]
  have h2 := eq_items a b n ha hb 9998 w n (List.range n) (by simp) (Nat.le_refl _)
  rw [Nat.sub_self, List.drop_zero, List.drop_zero] at h2
  exact h2
theorem eql_row {t n : Nat} (ht : Tryd.prog.underlying t = some (.array n 5)) (a b : List Nat) (ha : a.length = n) (hb : b.length = n) (w : World) : (binOp .eql t (.agg (w8 a).toArray) (.agg (w8 b).toArray)).run Tryd.prog w = .ok (.bool (decide (a = b))) w := by
  rw [run_eql_struct, equal_row ht a b ha hb]
  rfl
theorem neq_row {t n : Nat} (ht : Tryd.prog.underlying t = some (.array n 5)) (a b : List Nat) (ha : a.length = n) (hb : b.length = n) (w : World) : (binOp .neq t (.agg (w8 a).toArray) (.agg (w8 b).toArray)).run Tryd.prog w = .ok (.bool (!decide (a = b))) w := by
  rw [run_neq_struct, equal_row ht a b ha hb]
  rfl

/-- A slice of bytes that the call itself made. -/
def Own (w : World) (base : Nat) (v : Value) (l : List Nat) : Prop := w.ownsRow base 5 1 v l.length (w8 l)
theorem byte_info : (Tryd.prog.info? 5).map (fun i => (i.zero, i.size, i.bytes)) = some (some (.int .u8 0), 1, 1) := by kernel_rfl

theorem Own.src {w : World} {base b : Nat} {v : Value} {l : List Nat} (h : Own w base v l) (hb : v.ownBlock ≠ some b) (hl : ∀ x ∈ l, x < 256) : ∃ A c, v = .slice A l.length c ∧ c ≤ 9223372036854775807 ∧ Src w b A c l := by
  rcases h.2 with ⟨rfl, h0⟩ | ⟨g, c, cur, rfl, hg1, hg, hn, hc, _⟩
  · have : l = [] := List.eq_nil_of_length_eq_zero h0
    subst this
    exact ⟨none, 0, rfl, by omega, by simp, .inl rfl, by simp⟩
  · refine ⟨_, c, rfl, by unfold maxLen at hc; exact hc, hn, .inr ⟨g, 0, rfl, ?_, ?_, fun i hi => ?_⟩, hl⟩
    · rcases Nat.lt_or_ge g w.heap.size with h2 | h2
      · exact h2
      · rw [Array.getElem?_eq_none h2] at hg; cases hg
    · rintro rfl
      exact hb rfl
    · rw [Nat.zero_add, World.ownsRow.cellAt h i (by omega), w8_get l i hi]

theorem run_append_of_nil {P : Program} (w : World) (base : Nat) (t ty e : TypeId) (i : TypeInfo) (size : Nat) (ht : P.underlying t = some (.slice e)) (hi : P.info? e = some i)
    (v : Value) (n : Nat) (xs : List Value) (hown : w.ownsRow base e size v n xs) (c : Nat) : (Builtin.append_ #[t, t] ty #[v, .slice none 0 c]).run P w = .ok v w := by
  rcases hown.2 with ⟨rfl, rfl⟩ | ⟨g, cap, cur, rfl, _, _, hnc, _⟩
  · simp [Builtin.append_, run_underlying ht, sizeOf, typeInfo, hi, Builtin.lenOf, Builtin.firstCells]
  · simp [Builtin.append_, run_underlying ht, sizeOf, typeInfo, hi, Builtin.lenOf, Builtin.firstCells, hnc, storeCells]

set_option maxRecDepth 100000 in
theorem run_app (w : World) (base b : Nat) (ty : TypeId) (v : Value) (xs l : List Nat) (hO : Own w base v xs) (A : Option Addr) (c : Nat) (hS : Src w b A c l)
    (hb : xs.length + l.length ≤ 140737488355328) (hbase : base ≤ w.heap.size) :
    ∃ v' w', (Builtin.append_ #[30, 30] ty #[v, .slice A l.length c]).run Tryd.prog w = .ok v' w' ∧ Own w' base v' (xs ++ l) ∧ w.grownBy w' v.ownBlock ∧ (v'.ownBlock = v.ownBlock ∨ v'.ownBlock = some w.heap.size) := by
  obtain ⟨i0, hi, hz0, hz1, hz2⟩ := info_parts byte_info
  have e2 : w8 (xs ++ l) = w8 xs ++ w8 l := by simp [w8]
  cases A with
  | none =>
    have hl0 : l = [] := by
      rcases hS.at_ with h | ⟨b, off, h, _⟩
      · exact h
      · cases h
    subst hl0
    refine ⟨_, w, run_append_of_nil (P := Tryd.prog) w base 30 ty 5 i0 1 Tryd.underlying30 hi v _ _ hO c, by simpa using hO, World.grownBy.refl w _, .inl rfl⟩
  | some ad =>
    have hcells : ∀ j u, (w8 l)[j]? = some u → w.cell? (ad.add j) = some u := by
      intro j u hu
      rcases hS.at_ with rfl | ⟨b, off, h, _, _, hcell⟩
      · simp [w8] at hu
      · injection h with h
        subst h
        have hj : j < l.length := by
          have := (List.getElem?_eq_some_iff.1 hu).1
          simpa [w8] using this
        rw [Addr.add_mid, hcell j hj, ← hu, w8_get l j hj]
    obtain ⟨v', w', hr, h2, h3, _, h5⟩ := run_append_own_at (P := Tryd.prog) w base 30 ty 5 i0 (.int .u8 0) 1 1 Tryd.underlying30 hi hz0 hz1 hz2 rfl (by omega) v xs.length (w8 xs) hO ad l.length c (w8 l) (by simp [w8]) hcells
      (w8_one l) (by unfold maxLen; omega) (by omega) hbase
    refine ⟨v', w', hr, ?_, h3, h5⟩
    unfold Own
    rw [List.length_append, e2]
    exact h2

theorem wpList_app {w : World} {ops : Array Oper} {rest : List Oper} {o : Oper} {a : Act} {Q : Exit → Act → World → Prop} (hgd : o.guard = none) (s x : Operand)
    (ho : o.op = .call { callee := .builtin .append, args := #[s, x], argTypes := #[30, 30] })
    (base b : Nat) (v : Value) (xs l : List Nat) (hs : a.eval s = v) (hO : Own w base v xs) (A : Option Addr) (n c : Nat) (hx : a.eval x = .slice A n c) (hn : n = l.length) (hS : Src w b A c l) (hb : xs.length + l.length ≤ 140737488355328) (hbase : base ≤ w.heap.size)
    (h : ∀ v' w', Hid (Own w' base v' (xs ++ l)) → Hid (w.grownBy w' v.ownBlock) → Hid (v'.ownBlock = v.ownBlock ∨ v'.ownBlock = some w.heap.size) → wpList Tryd.prog ops Q rest (a.put o.dst v') w') : wpList Tryd.prog ops Q (o :: rest) a w := by
  subst hn
  refine wpList_plain hgd fun K hK => ?_
  obtain ⟨v', w', hr, h2, h3, h4⟩ := run_app w base b o.type v xs l hO A c hS hb hbase
  unfold Oper.wp execOp
  simp only [ho, resolve, invoke, builtin, Sem.run_bind, Sem.run_pure, Result.andThen_ok, List.map_toArray, List.map_cons, List.map_nil, hs, hx, hr]
  exact hK _ _ (h v' w' (Lib.hid h2) (Lib.hid h3) (Lib.hid h4))

theorem Own.nil (w : World) (base : Nat) : Own w base (.slice none 0 0) [] := World.ownsRow_nil w base 5 1
theorem Own.below {w w' : World} {base : Nat} {v : Value} {l : List Nat} (h : Own w base v l) (hB : Below w.heap.size w w') : Own w' base v l := by
  refine ⟨h.1, ?_⟩
  rcases h.2 with h1 | ⟨g, cap, cur, hv, hb, hg, rest⟩
  · exact .inl h1
  · have hlt : g < w.heap.size := by
      rcases Nat.lt_or_ge g w.heap.size with h2 | h2
      · exact h2
      · rw [Array.getElem?_eq_none h2] at hg; cases hg
    exact .inr ⟨g, cap, cur, hv, hb, (hB.block g hlt).trans hg, rest⟩
theorem Own.grown {w w' : World} {base b : Nat} {v : Value} {l : List Nat} (h : Own w base v l) (hg : w.grownBy w' (some b)) (hb : v.ownBlock ≠ some b) : Own w' base v l := by
  refine World.ownsRow.kept h hg ?_
  rcases hv : v.ownBlock with _ | g
  · exact .inl rfl
  · exact .inr fun he => hb (by rw [hv]; exact he)
theorem Own.base_ {w : World} {base g : Nat} {v : Value} {l : List Nat} (h : Own w base v l) (hv : v.ownBlock = some g) : base ≤ g ∧ g < w.heap.size := World.ownsRow.lt h g hv

end Go.Proofs.YtkonokjhpddbfaaDoor
namespace Go.Proofs.YtkonokjhpddbfaaDoor
open Go.RowKit
set_option linter.unusedVariables false

theorem Rep.below {w w' : World} {b : Nat} {l bs : List Nat} (h : Rep w b l bs) (hB : Below w.heap.size w w') : Rep w' b l bs := ⟨h.blk.below hB h.blk.lt, h.len, h.lt, h.rest⟩
theorem Rep.far {w w' : World} {b : Nat} {l bs : List Nat} {r : Option Nat} (h : Rep w b l bs) (hB : w.grownBy w' r) (hr : r ≠ some b) : Rep w' b l bs := ⟨h.blk.grown hB (fun e => hr e.symm), h.len, h.lt, h.rest⟩
theorem Tab.far {w w' : World} {r : Option Nat} (h : Tab w) (hB : w.grownBy w' r) (hr : r ≠ some 0) : Tab w' := fun j v hv => by
  rw [← h j v hv]
  exact World.cell?_of_block (hB.block 0 h.lt (fun e => hr e.symm))

/-- Some parts that came in. -/
structure Came (W : World) (A : Option Addr) (m : Nat) (ps : List (List Nat)) : Prop where
  parts : Parts W W.heap.size A ps
  len : ps.length = m
  most : m ≤ 5864062014805
  each : ∀ p ∈ ps, p.length ≤ 140737488355328 ∧ ∀ x ∈ p, x < 256

theorem Came.at_ {W wr : World} {A : Option Addr} {m : Nat} {ps : List (List Nat)} (h : Came W A m ps) (hB : Below W.heap.size W wr) (k : Nat) (hk : k < m) :
    ∃ g off Ai ci, A = some ⟨g, off, none⟩ ∧ g < wr.heap.size ∧ g < W.heap.size ∧ wr.cell? ⟨g, off + k, none⟩ = some (.slice Ai (ps.getD k []).length ci) ∧ ci ≤ 9223372036854775807 ∧ Src wr W.heap.size Ai ci (ps.getD k []) ∧ (ps.take (k + 1)).flatten = (ps.take k).flatten ++ ps.getD k [] ∧ (ps.getD k []).length ≤ 140737488355328 ∧ ∀ B, W.heap.size ≤ B → Src wr B Ai ci (ps.getD k []) := by
  have hkp : k < ps.length := by rw [h.len]; exact hk
  rcases h.parts.at_ with h0 | ⟨g, off, rfl, hg, hgb, hc⟩
  · rw [h0] at hkp
    simp at hkp
  obtain ⟨Ai, ci, hcell, hci, hsrc⟩ := hc k hkp
  refine ⟨g, off, Ai, ci, rfl, Nat.lt_of_lt_of_le hg hB.size, hg, by rw [hB.cell (p := ⟨g, off + k, none⟩) hg]; exact hcell, hci, hsrc.below hB, flatten_take ps k hkp, (h.each _ (by simp [List.getD, hkp])).1, fun B hBB => (hsrc.new hBB).below hB⟩

end Go.Proofs.YtkonokjhpddbfaaDoor
namespace Go.Proofs.YtkonokjhpddbfaaDoor
open Go.RowKit
set_option linter.unusedVariables false

/-- What is summed of parts for a domain. -/
def laidParts (ps : List (List Nat)) : List Nat := ps.flatMap fun p => four p.length ++ p
def text (d : Nat) (ps : List (List Nat)) : List Nat := [d, ps.length % 256] ++ laidParts ps

theorem laidParts_length (ps : List (List Nat)) : (laidParts ps).length = ps.flatten.length + 4 * ps.length := by
  induction ps with
  | nil => rfl
  | cons p r ih =>
    simp [laidParts, four] at ih ⊢
    omega
theorem laidParts_take (ps : List (List Nat)) (k : Nat) (x : List Nat) (hk : k < ps.length) (hx : ps.getD k [] = x) : laidParts (ps.take (k + 1)) = laidParts (ps.take k) ++ (four x.length ++ x) := by
  have e : ps[k] = x := by rw [← hx]; simp [List.getD, hk]
  rw [List.take_succ_eq_append_getElem hk, e]
  simp [laidParts]
theorem text_length (d : Nat) (ps : List (List Nat)) : (text d ps).length = 2 + ps.flatten.length + 4 * ps.length := by
  unfold text
  rw [List.length_append, laidParts_length]
  simp
  omega
theorem flatten_part (ps : List (List Nat)) (k : Nat) (x : List Nat) (hk : k < ps.length) (hx : ps.getD k [] = x) : x.length ≤ ps.flatten.length := by
  have := flatten_le ps k hk
  rw [hx] at this
  omega
theorem flatten_take_le (ps : List (List Nat)) (k : Nat) : (ps.take k).flatten.length ≤ ps.flatten.length := by
  have h : ps.flatten = (ps.take k).flatten ++ (ps.drop k).flatten := by rw [← List.flatten_append, List.take_append_drop]
  rw [h]
  simp

theorem Parts.two' {w : World} {b g : Nat} {t : TypeId} {A1 A2 : Option Addr} {c1 c2 n1 n2 : Nat} {x1 x2 : List Nat} (h : Blk w g t [.slice A1 n1 c1, .slice A2 n2 c2]) (hn1 : n1 = x1.length) (hn2 : n2 = x2.length) (hb : g ≠ b) (hc1 : c1 ≤ 9223372036854775807) (hc2 : c2 ≤ 9223372036854775807) (hs1 : Src w b A1 c1 x1) (hs2 : Src w b A2 c2 x2) : Parts w b (some ⟨g, 0, none⟩) [x1, x2] := by
  subst hn1; subst hn2
  refine ⟨.inr ⟨g, 0, rfl, h.lt, hb, fun i hi => ?_⟩⟩
  match i, hi with
  | 0, _ => exact ⟨A1, c1, by rw [h.cell]; rfl, hc1, hs1⟩
  | 1, _ => exact ⟨A2, c2, by rw [h.cell]; rfl, hc2, hs2⟩
theorem Parts.at2 {w wr : World} {b B : Nat} {A : Option Addr} {ps : List (List Nat)} (h : Parts w b A ps) (hB : Below w.heap.size w wr) (k : Nat) (hk : k < ps.length) (hbb : w.heap.size ≤ B) :
    ∃ g off Ai ci, A = some ⟨g, off, none⟩ ∧ g < wr.heap.size ∧ wr.cell? ⟨g, off + k, none⟩ = some (.slice Ai (ps.getD k []).length ci) ∧ ci ≤ 9223372036854775807 ∧ Src w B Ai ci (ps.getD k []) := by
  rcases h.at_ with h0 | ⟨g, off, rfl, hg, hgb, hc⟩
  · rw [h0] at hk
    simp at hk
  obtain ⟨Ai, ci, hcell, hci, hsrc⟩ := hc k hk
  exact ⟨g, off, Ai, ci, rfl, Nat.lt_of_lt_of_le hg hB.size, by rw [hB.cell (p := ⟨g, off + k, none⟩) hg]; exact hcell, hci, hsrc.new hbb⟩

theorem slice_four (g : Nat) (W : World) : (Instr.sliceAt 31 (.pointer (some ⟨g, 0, none⟩)) none none none).run Tryd.prog W = .ok (.slice (some ⟨g, 0, none⟩) 4 4) W := by
  have h := run_sliceAt_array_all (P := Tryd.prog) W 31 ⟨g, 0, none⟩ (by kernel_rfl)
  rw [h, show Tryd.prog.arrayLen 31 = 4 by kernel_rfl, show Tryd.prog.elem 31 = 5 by kernel_rfl]
  obtain ⟨i0, hi, hz0, hz1, hz2⟩ := info_parts byte_info
  simp [sizeOf, typeInfo, hi, slicedAt, Addr.add_mid]

set_option maxRecDepth 100000 in
set_option maxHeartbeats 4000000 in
theorem for_any (d m c b : Nat) (A : Option Addr) (ps : List (List Nat)) (w : World) (HT : Hid (Tab w)) (hd : d < 256) (HP : Hid (Parts w b A ps)) (HM : Hid (ps.length = m)) (hm : m ≤ 1000000) (HN : Hid (ps.flatten.length ≤ 1000000000)) :
    Calls Tryd.prog 94 #[.int .u8 (d : Int), .slice A m c] w fun e w' => e = .returned (.agg (w8 (sha (text d ps))).toArray) ∧ Below w.heap.size w w' := by
  have d1 : (d : Int) ≤ 255 := by omega
  go_enter Tryd.func94, Tryd.ntmps94
  go_upto_region 1 with fail
  have H0 : Hid (Blk (w.alloc (.cells zsum 36)) w.heap.size 36 (w8 noSum)) := Lib.hid (by
    have h := Blk.new w 36 (w8 (List.replicate 32 0))
    rw [zsum_eq] at h
    exact h)
  have H2 : Hid (Below w.heap.size w (w.alloc (.cells zsum 36))) := Lib.hid ((Below.refl _ _).alloc (Nat.le_refl _) _)
  unfold zsum at H0 H2
  generalize w.alloc (.cells _ 36) = V at H0 H2 ⊢
  have hV : w.heap.size < V.heap.size := H0.out.lt
  go_wp2_with fail
  refine (new_any _).mono ?_
  rintro e V1 ⟨rfl, hr1, hB1⟩
  have HR1 := Lib.hid hr1
  have HW1 := Lib.hid (H2.out.trans (hB1.mono (by omega)))
  have H01 := Lib.hid (H0.out.below hB1 hV)
  have hb1 : V.heap.size < V1.heap.size := hr1.blk.lt
  clear hr1 hB1
  obtain ⟨mm, hmm⟩ : ∃ mm, m % 256 = mm := ⟨_, rfl⟩
  have hmI : (m : Int) % 256 = (mm : Int) := by omega
  have hmm2 : mm < 256 := by omega
  have HMM := Lib.hid hmm
  clear hmm
  go_wp2_with fail
  have HBN : Hid (Below V1.heap.size V1 ((V1.alloc (.cells #[.int .u8 (d : Int), .int .u8 (mm : Int)] 5)).alloc (.cells #[.slice (some ⟨V1.heap.size, 0, none⟩) 2 2] 30))) := Lib.hid (((Below.refl _ _).alloc (Nat.le_refl _) _).alloc (by simp) _)
  have HPA : Hid (Blk ((V1.alloc (.cells #[.int .u8 (d : Int), .int .u8 (mm : Int)] 5)).alloc (.cells #[.slice (some ⟨V1.heap.size, 0, none⟩) 2 2] 30)) V1.heap.size 5 (w8 [d, mm])) := Lib.hid ((Blk.new V1 5 (w8 [d, mm])).alloc _)
  have HPB : Hid (Blk ((V1.alloc (.cells #[.int .u8 (d : Int), .int .u8 (mm : Int)] 5)).alloc (.cells #[.slice (some ⟨V1.heap.size, 0, none⟩) 2 2] 30)) (V1.heap.size + 1) 30 [.slice (some ⟨V1.heap.size, 0, none⟩) 2 2]) := Lib.hid (by
    have h := Blk.new (V1.alloc (.cells #[.int .u8 (d : Int), .int .u8 (mm : Int)] 5)) 30 [.slice (some ⟨V1.heap.size, 0, none⟩) 2 2]
    rw [World.size_alloc] at h
    exact h)
  generalize (V1.alloc (.cells #[.int .u8 (d : Int), .int .u8 (mm : Int)] 5)).alloc (.cells #[.slice (some ⟨V1.heap.size, 0, none⟩) 2 2] 30) = V2 at HBN HPA HPB ⊢
  have HW2 := Lib.hid (HW1.out.trans (HBN.out.mono (by omega)))
  have HT2 := Lib.hid (HT.out.below HW2.out HT.out.lt)
  have HP2 := Lib.hid (Parts.one (b := V.heap.size) (x := [d, mm]) HPB.out rfl (by omega) (by omega) (Src.blk (rest := []) (by rw [List.append_nil]; exact HPA.out) (by omega) (by intro x hx; simp at hx; omega) 2 (by simp)))
  have hV0 : V.heap.size ≠ 0 := by omega
  refine (write_any V.heap.size 1 1 _ [] _ [[d, mm]] V2 (Lib.hid (HR1.out.below HBN.out)) HT2 hV0 HP2 (Lib.hid rfl) (by omega) (Lib.hid (by simp))).mono ?_
  rintro e V3 ⟨rfl, ⟨bs3, hr3⟩, hg3⟩
  rw [show ([] : List Nat) ++ ([[d, mm]] : List (List Nat)).flatten = [d, mm] by simp] at hr3
  have HR3 := Lib.hid hr3
  have HW3 := Lib.hid (HW2.out.trans (only_up hg3 (Nat.le_of_lt hV) HW2.out.size))
  have H03 := Lib.hid ((H01.out.below HBN.out (by omega)).grown hg3 (by intro he; injection he with he; omega))
  clear hr3 hg3 HPA HPB HP2 HBN HR1 hmI
  go_wp2_with fail
  go_loopw [20, 7, 8] (fun i _ _ wr => ∃ (k : Nat) (bs' : List Nat), k ≤ m ∧ i = .int .i64 k ∧ Hid (Rep wr V.heap.size ([d, mm] ++ laidParts (ps.take k)) bs') ∧ Hid (Blk wr w.heap.size 36 (w8 noSum)) ∧ Hid (Below w.heap.size w wr)) (fun i _ _ _ => m - (intOf i).toNat)
  case atStart => exact ⟨0, bs3, Nat.zero_le _, rfl, HR3, H03, HW3⟩
  case round =>
    obtain ⟨k, bs', hk, rfl, HR, H04, HW⟩ := hrel
    by_cases hlt : k < m
    · have hkp : k < ps.length := by rw [HM.out]; exact hlt
      obtain ⟨g, off, Ai, ci, hA, hg, hcell, hci, hsrc⟩ := HP.out.at2 HW.out k hkp (B := V.heap.size) (by omega)
      obtain ⟨x, hx⟩ : ∃ x, ps.getD k [] = x := ⟨_, rfl⟩
      obtain ⟨n, hn⟩ : ∃ n, x.length = n := ⟨_, rfl⟩
      have hnb : n ≤ 1000000000 := by have h1 := flatten_part ps k x hkp hx; have h2 := HN.out; omega
      have HTK := Lib.hid (laidParts_take ps k x hkp hx)
      have HLE : Hid (([d, mm] ++ laidParts (ps.take k)).length + (four n).length + x.length ≤ 1000000000000) := Lib.hid (by
        have h1 := flatten_take_le ps k
        have h2 := HN.out
        have e4 : (four n).length = 4 := rfl
        have e2 : [d, mm].length = 2 := rfl
        have e3 := Nat.min_le_left k ps.length
        rw [List.length_append, laidParts_length, List.length_take, e4, e2, hn]
        omega)
      rw [hx, hn] at hcell
      rw [hx] at hsrc
      have HX := Lib.hid hn
      have HSR := Lib.hid (hsrc.below HW.out)
      have hwr : V.heap.size < wr.heap.size := HR.out.blk.lt
      have n1 : (n : Int) ≤ 1000000000 := by omega
      have n2 : n < 4294967296 := by omega
      subst hA
      clear hx hn hsrc hkp
      go_wp2_with fail
      refine (bytesOf_any n _ n2).mono ?_
      rintro e w4 ⟨rfl, hB4⟩
      have HB4 := Lib.hid hB4
      have HLA4 := Lib.hid (heap_alloc_last w4 (.cells zfour 31))
      have HS4 : Hid ((Tryd.prog.info? 31).map (·.size) = some (w8 (four n)).toArray.size) := Lib.hid info52
      have HO4 := Lib.hid (all_oneCell_toArray (w8_one (four n)))
      have h4w : wr.heap.size ≤ w4.heap.size := HB4.out.size
      clear hB4 hcell
      go_upto_region 7 with (first | (refine wpList_store_row rfl 31 (.tmp 8) (.tmp 27) rfl w4.heap.size (w8 (four n)).toArray rfl rfl 31 _ HLA4.out HS4.out rfl HO4.out ?_; rw [World.setRow_alloc_new]))
      have HF5 := Lib.hid (Blk.new w4 31 (w8 (four n)))
      have HB5 : Hid (Below wr.heap.size wr (w4.alloc (.cells (w8 (four n)).toArray 31))) := Lib.hid (HB4.out.alloc HB4.out.size _)
      generalize w4.alloc (.cells (w8 (four n)).toArray 31) = V5 at HF5 HB5 ⊢
      have hs4 := slice_four w4.heap.size
      have h5w : w4.heap.size < V5.heap.size := HF5.out.lt
      go_wp2_with fail
      have HB6 : Hid (Below V5.heap.size V5 (V5.alloc (.cells #[.slice (some ⟨w4.heap.size, 0, none⟩) 4 4, .slice Ai n ci] 30))) := Lib.hid ((Below.refl _ _).alloc (Nat.le_refl _) _)
      have HPB := Lib.hid (Blk.new V5 30 [.slice (some ⟨w4.heap.size, 0, none⟩) 4 4, .slice Ai n ci])
      generalize V5.alloc (.cells #[.slice (some ⟨w4.heap.size, 0, none⟩) 4 4, .slice Ai n ci] 30) = V6 at HB6 HPB ⊢
      have HB56 := Lib.hid (HB5.out.trans (HB6.out.mono (by omega)))
      have HW6 := Lib.hid (HW.out.trans (HB56.out.mono (by omega)))
      have HP6 := Lib.hid (Parts.two' (b := V.heap.size) (x1 := four n) (x2 := x) HPB.out rfl HX.out.symm (by omega) (by omega) hci (Src.blk (rest := []) (by rw [List.append_nil]; exact HF5.out.below HB6.out h5w) (by omega) (four_lt n n2) 4 (by simp [four])) (HSR.out.below HB56.out))
      refine (write_any V.heap.size 2 2 _ _ bs' [four n, x] V6 (Lib.hid (HR.out.below HB56.out)) (Lib.hid (HT.out.below HW6.out HT.out.lt)) hV0 HP6 (Lib.hid rfl) (by omega) (Lib.hid (by have h1 := HLE.out; have h2 : (four n ++ x).length = (four n).length + x.length := List.length_append; rw [show ([four n, x] : List (List Nat)).flatten = four n ++ x by simp]; omega))).mono ?_
      rintro e V7 ⟨rfl, ⟨bs7, hr7⟩, hg7⟩
      rw [show ([four n, x] : List (List Nat)).flatten = four n ++ x by simp, List.append_assoc, ← HX.out, ← HTK.out] at hr7
      have HR7 := Lib.hid hr7
      have HW7 := Lib.hid (HW6.out.trans (only_up hg7 (Nat.le_of_lt hV) HW6.out.size))
      have H07 := Lib.hid ((H04.out.below HB56.out (by omega)).grown hg7 (by intro he; injection he with he; omega))
      clear hr7 hg7 hs4
      go_wp2
      go_roundw
      case rel => exact ⟨k + 1, bs7, by omega, by go_num, HR7, H07, HW7⟩
      case measure => simp [intOf]; omega
    · have htk : ps.take k = ps := List.take_of_length_le (by rw [HM.out]; omega)
      rw [htk, show [d, mm] ++ laidParts ps = text d ps by unfold text; rw [HM.out, HMM.out]] at HR
      have HN9 : Hid ((text d ps).length ≤ 100000000000) := Lib.hid (by rw [text_length, HM.out]; have := HN.out; omega)
      clear htk
      go_wp2_with fail
      refine (sum_any V.heap.size _ bs' wr HR (Lib.hid (HT.out.below HW.out HT.out.lt)) hV0 HN9).mono ?_
      rintro e V3 ⟨rfl, hB3⟩
      have h2w : w.heap.size < wr.heap.size := H04.out.lt
      have H05 := Lib.hid (H04.out.below hB3 h2w)
      have HW5 := Lib.hid (HW.out.trans (hB3.mono (by omega)))
      have HS6 : Hid ((Tryd.prog.info? 36).map (·.size) = some (w8 (sha (text d ps))).toArray.size) := Lib.hid (by rw [List.size_toArray, w8_length, sha_length]; exact info25)
      have HZ6 : Hid ((w8 noSum).toArray.size = (w8 (sha (text d ps))).toArray.size) := Lib.hid (by rw [List.size_toArray, List.size_toArray, w8_length, w8_length, sha_length]; simp [noSum])
      have HO6 := Lib.hid (all_oneCell_toArray (w8_one (sha (text d ps))))
      clear hB3
      go_wp2_with (first | (refine wpList_store_row rfl 36 (.tmp 4) (.tmp 35) rfl w.heap.size (w8 (sha (text d ps))).toArray rfl rfl 36 _ H05.out HS6.out HZ6.out HO6.out ?_))
      exact bodyPost_ret (v := .agg (w8 (sha (text d ps))).toArray) (results_cell_row Tryd.results94 _ _ w.heap.size 36 (w8 (sha (text d ps))).toArray (0, 0) _ rfl (H05.out.setRow _) Tryd.underlying36 rfl HS6.out) rfl ⟨rfl, below_setRow HW5.out (Nat.le_refl _) _⟩
end Go.Proofs.YtkonokjhpddbfaaDoor
namespace Go.Proofs.YtkonokjhpddbfaaDoor
set_option linter.unusedVariables false

/-- The covers of the key 0 of zero's seed, place by place, for 0 and for 1. -/
def zcov : List (List Nat) := [[139, 155, 28, 71, 161, 179, 248, 122, 134, 33, 130, 227, 18, 244, 98, 159], [185, 187, 190, 153, 112, 35, 61, 185, 32, 180, 157, 202, 120, 82, 152, 45], [176, 130, 181, 91, 135, 223, 63, 66, 97, 61, 50, 46, 13, 134, 96, 224], [101, 67, 80, 224, 76, 139, 213, 170, 203, 168, 198, 133, 255, 201, 246, 22], [189, 212, 6, 29, 68, 199, 176, 57, 222, 86, 19, 150, 89, 54, 209, 237], [47, 50, 226, 216, 237, 251, 34, 188, 1, 148, 189, 155, 13, 160, 95, 91], [19, 66, 168, 164, 90, 89, 253, 101, 238, 215, 38, 234, 59, 24, 219, 9], [84, 38, 132, 168, 137, 155, 133, 86, 129, 25, 248, 204, 177, 119, 8, 62], [22, 74, 11, 242, 135, 136, 93, 17, 230, 179, 245, 18, 166, 106, 17, 31], [238, 150, 2, 124, 70, 30, 90, 152, 255, 187, 174, 119, 35, 133, 124, 250], [243, 131, 238, 214, 112, 171, 219, 77, 252, 13, 84, 152, 176, 50, 226, 1], [5, 196, 62, 5, 29, 232, 177, 130, 187, 172, 41, 27, 208, 77, 212, 123], [12, 80, 58, 112, 135, 35, 137, 68, 8, 197, 98, 150, 122, 73, 36, 229], [190, 238, 10, 181, 230, 195, 70, 156, 67, 244, 187, 200, 17, 153, 53, 169], [89, 15, 224, 49, 135, 130, 25, 86, 193, 130, 12, 28, 249, 89, 41, 129], [167, 103, 206, 2, 180, 66, 116, 191, 39, 129, 220, 51, 233, 221, 105, 28], [41, 88, 163, 66, 104, 244, 114, 157, 207, 199, 32, 49, 196, 193, 67, 32], [33, 191, 230, 78, 242, 151, 15, 95, 193, 83, 117, 215, 155, 195, 162, 180], [172, 170, 193, 190, 35, 198, 39, 25, 196, 196, 18, 241, 233, 53, 235, 249], [206, 148, 188, 99, 238, 67, 234, 224, 19, 2, 145, 44, 254, 134, 153, 192], [241, 93, 194, 2, 9, 173, 202, 149, 11, 35, 86, 20, 5, 219, 88, 47], [157, 74, 189, 210, 168, 224, 160, 121, 22, 181, 218, 108, 141, 203, 75, 31], [103, 180, 31, 190, 44, 197, 175, 209, 94, 222, 95, 39, 224, 30, 35, 238], [155, 136, 19, 123, 204, 16, 23, 44, 209, 180, 161, 65, 186, 123, 132, 159], [173, 149, 116, 231, 48, 87, 113, 176, 228, 175, 170, 200, 87, 175, 105, 18], [146, 74, 123, 240, 52, 181, 164, 247, 19, 73, 12, 218, 80, 81, 53, 233], [68, 28, 111, 209, 74, 108, 114, 28, 189, 200, 137, 171, 205, 142, 44, 229], [175, 113, 138, 103, 105, 151, 234, 53, 102, 125, 99, 86, 223, 117, 50, 57], [112, 25, 137, 18, 58, 36, 161, 101, 154, 38, 72, 191, 137, 196, 208, 139], [71, 8, 212, 154, 71, 228, 50, 127, 227, 62, 136, 162, 178, 102, 7, 60], [181, 140, 18, 223, 77, 131, 134, 182, 246, 119, 237, 56, 251, 202, 182, 110], [17, 219, 220, 117, 91, 102, 13, 240, 203, 81, 0, 101, 109, 203, 133, 166], [22, 33, 166, 79, 52, 81, 133, 73, 29, 188, 41, 185, 61, 206, 254, 183], [236, 236, 138, 132, 250, 163, 231, 212, 54, 179, 235, 22, 144, 26, 194, 225], [195, 228, 209, 54, 137, 21, 37, 157, 190, 68, 23, 147, 193, 130, 197, 238], [148, 2, 124, 39, 15, 53, 107, 192, 25, 184, 176, 178, 56, 108, 57, 39], [193, 12, 41, 112, 107, 10, 44, 33, 90, 40, 41, 127, 113, 163, 26, 31], [209, 1, 72, 176, 155, 166, 39, 124, 242, 188, 90, 128, 50, 247, 77, 231], [34, 118, 120, 11, 72, 65, 109, 81, 183, 44, 218, 62, 247, 14, 166, 236], [186, 213, 148, 72, 81, 122, 83, 24, 112, 214, 3, 185, 137, 252, 8, 25], [118, 243, 27, 187, 47, 116, 49, 38, 159, 240, 88, 134, 85, 164, 28, 189], [68, 3, 82, 212, 212, 14, 175, 229, 108, 211, 170, 78, 147, 133, 67, 124], [129, 181, 61, 59, 34, 128, 126, 32, 140, 112, 30, 129, 190, 186, 81, 244], [72, 250, 13, 75, 121, 169, 100, 253, 76, 207, 86, 216, 22, 196, 150, 127], [187, 41, 226, 219, 15, 254, 93, 102, 79, 75, 18, 198, 20, 43, 158, 203], [23, 133, 82, 146, 117, 182, 39, 82, 12, 238, 154, 5, 29, 92, 27, 239], [204, 112, 196, 255, 64, 235, 174, 32, 204, 154, 240, 108, 22, 224, 69, 28], [241, 153, 119, 65, 169, 135, 96, 87, 160, 128, 225, 173, 141, 105, 17, 53], [71, 174, 246, 203, 115, 100, 87, 75, 114, 23, 205, 82, 51, 40, 217, 91], [24, 229, 164, 140, 232, 112, 132, 243, 2, 136, 84, 110, 168, 114, 111, 115], [79, 51, 97, 93, 80, 61, 53, 143, 25, 39, 143, 0, 178, 207, 224, 150], [248, 254, 202, 44, 9, 194, 147, 44, 255, 48, 22, 156, 14, 70, 127, 102], [15, 14, 41, 116, 96, 124, 54, 237, 143, 193, 59, 44, 239, 70, 81, 114], [106, 90, 64, 139, 138, 124, 78, 142, 13, 239, 137, 85, 46, 88, 135, 142], [143, 119, 93, 34, 154, 44, 189, 15, 150, 243, 139, 40, 214, 41, 65, 75], [192, 7, 248, 26, 24, 176, 67, 123, 63, 15, 203, 85, 142, 71, 211, 193], [25, 248, 102, 200, 125, 168, 243, 115, 65, 247, 207, 186, 3, 231, 125, 47], [219, 198, 46, 102, 244, 214, 202, 231, 98, 89, 99, 135, 79, 34, 108, 186], [88, 37, 76, 135, 232, 74, 248, 224, 168, 37, 125, 205, 198, 138, 31, 75], [60, 134, 177, 9, 133, 80, 98, 174, 100, 141, 135, 118, 238, 178, 213, 109], [241, 67, 13, 52, 194, 212, 211, 167, 113, 74, 254, 243, 36, 104, 136, 193], [59, 115, 155, 54, 123, 44, 62, 61, 89, 57, 226, 113, 145, 54, 241, 81], [224, 124, 17, 37, 85, 30, 217, 224, 38, 126, 161, 208, 102, 13, 185, 252], [145, 133, 34, 69, 134, 100, 100, 223, 239, 88, 206, 5, 7, 11, 194, 69]]
set_option maxRecDepth 100000 in
theorem zcov_eq : (List.range 32).flatMap (fun a => [(qsha 1 (text 5 [(qsha 1 (text 1 [List.replicate 32 0, four 0, [a, 0]])).take 16])).take 16, (qsha 1 (text 5 [(qsha 1 (text 1 [List.replicate 32 0, four 0, [a, 1]])).take 16])).take 16]) = zcov := by decide +kernel
set_option maxRecDepth 100000 in
theorem zleaf_eq : qsha 17 (text 2 [zcov.flatten]) = [44, 2, 183, 236, 69, 109, 109, 1, 45, 177, 90, 166, 239, 29, 205, 79, 81, 210, 141, 214, 64, 98, 25, 220, 119, 216, 212, 30, 107, 154, 9, 73] := by decide +kernel

/-- A key's secret, what a piece is known by, a digest's bit. -/
def secN (seed : List Nat) (n a v : Nat) : List Nat := (sha (text 1 [seed, four n, [a, v]])).take 16
def covN (p : List Nat) : List Nat := (sha (text 5 [p])).take 16
def bitN (d : List Nat) (a : Nat) : Nat := d.getD (a / 8) 0 / 2 ^ (7 - a % 8) % 2
/-- Row by row. -/
def rows (f : Nat → List Nat) (k : Nat) : List Nat := (List.range k).flatMap f
theorem rows_zero (f : Nat → List Nat) : rows f 0 = [] := rfl
theorem rows_succ (f : Nat → List Nat) (k : Nat) : rows f (k + 1) = rows f k ++ f k := by simp [rows, List.range_succ]
theorem rows_length {f : Nat → List Nat} {m : Nat} (h : ∀ a, (f a).length = m) : ∀ k, (rows f k).length = m * k
  | 0 => rfl
  | k + 1 => by rw [rows_succ, List.length_append, rows_length h k, h k, Nat.mul_succ]
theorem rows_congr {f g : Nat → List Nat} : ∀ k, (∀ a, a < k → f a = g a) → rows f k = rows g k
  | 0, _ => rfl
  | k + 1, h => by rw [rows_succ, rows_succ, rows_congr k (fun a ha => h a (by omega)), h k (by omega)]
theorem rows_piece {f : Nat → List Nat} {m : Nat} (h : ∀ a, (f a).length = m) : ∀ (k a : Nat), a < k → ((rows f k).drop (m * a)).take m = f a
  | 0, a, ha => by omega
  | k + 1, a, ha => by
    have hl := rows_length h k
    rw [rows_succ]
    rcases Nat.lt_or_ge a k with h1 | h1
    · have h2 : m * a + m ≤ m * k := by rw [← Nat.mul_succ]; exact Nat.mul_le_mul_left m h1
      rw [List.drop_append_of_le_length (by omega), List.take_append_of_le_length (by rw [List.length_drop]; omega)]
      exact rows_piece h k a h1
    · obtain rfl : a = k := by omega
      rw [← hl, List.drop_left, List.take_of_length_le (by rw [h a]; omega)]
theorem rows_lt {f : Nat → List Nat} (h : ∀ a, ∀ x ∈ f a, x < 256) (k : Nat) : ∀ x ∈ rows f k, x < 256 := by
  intro x hx
  simp only [rows, List.mem_flatMap] at hx
  obtain ⟨a, _, hx⟩ := hx
  exact h a x hx

theorem flat4_lt : ∀ (ws : List Nat), (∀ x ∈ ws, x < 4294967296) → ∀ x ∈ ws.flatMap four, x < 256 := by
  intro ws h x hx
  obtain ⟨y, hy, hx⟩ := List.mem_flatMap.1 hx
  exact four_lt y (h y hy) x hx
theorem sha_lt (l : List Nat) : ∀ x ∈ sha l, x < 256 := flat4_lt _ (wordsAt_lt _ _)
theorem secN_length (seed : List Nat) (n a v : Nat) : (secN seed n a v).length = 16 := by simp [secN, sha_length]
theorem covN_length (p : List Nat) : (covN p).length = 16 := by simp [covN, sha_length]
theorem secN_lt (seed : List Nat) (n a v : Nat) : ∀ x ∈ secN seed n a v, x < 256 := fun x hx => sha_lt _ x (List.mem_of_mem_take hx)
theorem covN_lt (p : List Nat) : ∀ x ∈ covN p, x < 256 := fun x hx => sha_lt _ x (List.mem_of_mem_take hx)
theorem bitN_two (d : List Nat) (a : Nat) : bitN d a = 0 ∨ bitN d a = 1 := by unfold bitN; omega

/-- A signature: of each place the secret for the digest's bit, and behind them what the other ones are known by. -/
def opnN (seed : List Nat) (n : Nat) (d : List Nat) (a : Nat) : List Nat := secN seed n a (bitN d a)
def othN (seed : List Nat) (n : Nat) (d : List Nat) (a : Nat) : List Nat := covN (secN seed n a (1 - bitN d a))
def signN (seed : List Nat) (n : Nat) (d : List Nat) : List Nat := rows (opnN seed n d) 32 ++ rows (othN seed n d) 32
/-- A signature's piece: of Open from 0 on, of Other from 32 on. -/
def pcs (S : List Nat) (a : Nat) : List Nat := (S.drop (16 * a)).take 16
def prN (c o : List Nat) (b : Nat) : List Nat := if b = 0 then c ++ o else o ++ c
def fromT (S d : List Nat) : List Nat := rows (fun a => prN (covN (pcs S a)) (pcs S (32 + a)) (bitN d a)) 32
def fromN (S d : List Nat) : List Nat := sha (text 2 [fromT S d])
def leafT (seed : List Nat) (n : Nat) : List Nat := rows (fun a => covN (secN seed n a 0) ++ covN (secN seed n a 1)) 32
def leafN (seed : List Nat) (n : Nat) : List Nat := sha (text 2 [leafT seed n])

theorem opnN_length (seed : List Nat) (n : Nat) (d : List Nat) (a : Nat) : (opnN seed n d a).length = 16 := secN_length _ _ _ _
theorem othN_length (seed : List Nat) (n : Nat) (d : List Nat) (a : Nat) : (othN seed n d a).length = 16 := covN_length _
theorem signN_length (seed : List Nat) (n : Nat) (d : List Nat) : (signN seed n d).length = 1024 := by
  unfold signN
  rw [List.length_append, rows_length (opnN_length seed n d), rows_length (othN_length seed n d)]
theorem signN_lt (seed : List Nat) (n : Nat) (d : List Nat) : ∀ x ∈ signN seed n d, x < 256 := by
  intro x hx
  rcases List.mem_append.1 hx with hx | hx
  · exact rows_lt (fun a => secN_lt _ _ _ _) 32 x hx
  · exact rows_lt (fun a => covN_lt _) 32 x hx
theorem pcs_length (S : List Nat) (a : Nat) (h : 16 * a + 16 ≤ S.length) : (pcs S a).length = 16 := by simp [pcs]; omega
theorem pcs_lt (S : List Nat) (a : Nat) (h : ∀ x ∈ S, x < 256) : ∀ x ∈ pcs S a, x < 256 := fun x hx => h x (List.mem_of_mem_drop (List.mem_of_mem_take hx))
theorem pcs_open (seed : List Nat) (n : Nat) (d : List Nat) (a : Nat) (ha : a < 32) : pcs (signN seed n d) a = opnN seed n d a := by
  have hl : (rows (opnN seed n d) 32).length = 512 := rows_length (opnN_length seed n d) 32
  unfold pcs signN
  rw [List.drop_append_of_le_length (by omega), List.take_append_of_le_length (by rw [List.length_drop]; omega)]
  exact rows_piece (opnN_length seed n d) 32 a ha
theorem pcs_other (seed : List Nat) (n : Nat) (d : List Nat) (a : Nat) (ha : a < 32) : pcs (signN seed n d) (32 + a) = othN seed n d a := by
  have hl : (rows (opnN seed n d) 32).length = 512 := rows_length (opnN_length seed n d) 32
  unfold pcs signN
  rw [show 16 * (32 + a) = (rows (opnN seed n d) 32).length + 16 * a by omega, List.drop_append, List.drop_of_length_le (by omega), List.nil_append, show (rows (opnN seed n d) 32).length + 16 * a - (rows (opnN seed n d) 32).length = 16 * a by omega]
  exact rows_piece (othN_length seed n d) 32 a ha
theorem prN_length (c o : List Nat) (b : Nat) (hc : c.length = 16) (ho : o.length = 16) : (prN c o b).length = 32 := by unfold prN; split <;> simp [hc, ho]
theorem leafT_length (seed : List Nat) (n : Nat) : (leafT seed n).length = 1024 := rows_length (m := 32) (fun a => by simp [covN_length]) 32
theorem fromT_lt (S d : List Nat) (h : ∀ x ∈ S, x < 256) : ∀ x ∈ fromT S d, x < 256 := rows_lt (fun a x hx => by
  unfold prN at hx
  split at hx
  · rcases List.mem_append.1 hx with hx | hx
    · exact covN_lt _ x hx
    · exact pcs_lt S _ h x hx
  · rcases List.mem_append.1 hx with hx | hx
    · exact pcs_lt S _ h x hx
    · exact covN_lt _ x hx) 32
theorem leafN_length (seed : List Nat) (n : Nat) : (leafN seed n).length = 32 := sha_length _
theorem fromN_length (S d : List Nat) : (fromN S d).length = 32 := sha_length _
/-- What a signature leads to is its key's leaf. -/
theorem from_sign (seed : List Nat) (n : Nat) (d : List Nat) : fromN (signN seed n d) d = leafN seed n := by
  unfold fromN leafN
  have e : fromT (signN seed n d) d = leafT seed n := rows_congr 32 fun a ha => by
    rw [pcs_open _ _ _ _ ha, pcs_other _ _ _ _ ha]
    unfold opnN othN prN
    rcases bitN_two d a with h | h <;> rw [h] <;> simp
  rw [e]

theorem secN_q (seed : List Nat) (n a v : Nat) (hs : seed.length = 32) : secN seed n a v = (qsha 1 (text 1 [seed, four n, [a, v]])).take 16 := by
  unfold secN
  rw [qsha_eq 1 _ (by simp [text, laidParts, four, hs])]
theorem covN_q (p : List Nat) (hp : p.length = 16) : covN p = (qsha 1 (text 5 [p])).take 16 := by
  unfold covN
  rw [qsha_eq 1 _ (by simp [text, laidParts, four, hp])]
theorem rows_flatten (f : Nat → List (List Nat)) : ∀ k, ((List.range k).flatMap f).flatten = rows (fun a => (f a).flatten) k
  | 0 => rfl
  | k + 1 => by rw [List.range_succ, List.flatMap_append, List.flatten_append, rows_flatten f k, rows_succ]; simp
theorem leafT_zero : leafT (List.replicate 32 0) 0 = zcov.flatten := by
  rw [← zcov_eq, rows_flatten]
  refine rows_congr 32 fun a _ => ?_
  rw [covN_q _ (secN_length _ _ _ _), covN_q _ (secN_length _ _ _ _), secN_q _ _ _ _ (by simp), secN_q _ _ _ _ (by simp)]
  simp
set_option maxRecDepth 100000 in
theorem leaf_zero : (leafN (List.replicate 32 0) 0).getD 0 0 = 44 := by
  unfold leafN
  have hl := leafT_length (List.replicate 32 0) 0
  rw [← qsha_eq 17 _ (by simp only [text, laidParts, List.flatMap_cons, List.flatMap_nil, List.length_append, hl, four, List.length_cons, List.length_nil]), leafT_zero, zleaf_eq]
  rfl
end Go.Proofs.YtkonokjhpddbfaaDoor
