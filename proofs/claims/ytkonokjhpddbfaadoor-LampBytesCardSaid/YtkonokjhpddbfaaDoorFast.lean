/-
  SHA-256 as the kernel works it out fast: the same sum as the standard's (a block's sixteen next words at hand, each number worked out at once).
-/
import Derived.Test.YtkonokjhpddbfaaDoorNum
namespace Go.Proofs.YtkonokjhpddbfaaDoor
set_option linter.unusedVariables false

@[reducible] def frc {α : Type} (x : Nat) (k : Nat → α) : α := Nat.casesOn x (k 0) (fun n => k (Nat.succ n))
theorem frc_eq {α : Type} (x : Nat) (k : Nat → α) : frc x k = k x := by cases x <;> rfl

def qr (p q x : Nat) : Nat := Nat.add (Nat.div x p) (Nat.mul (Nat.mod x p) q)
def qgA (x : Nat) : Nat := Nat.xor (Nat.xor (qr 128 33554432 x) (qr 262144 16384 x)) (Nat.div x 8)
def qgB (x : Nat) : Nat := Nat.xor (Nat.xor (qr 131072 32768 x) (qr 524288 8192 x)) (Nat.div x 1024)
def qE (x : Nat) : Nat := Nat.xor (Nat.xor (qr 64 67108864 x) (qr 2048 2097152 x)) (qr 33554432 128 x)
def qA (x : Nat) : Nat := Nat.xor (Nat.xor (qr 4 1073741824 x) (qr 8192 524288 x)) (qr 4194304 1024 x)
def qch (e f g : Nat) : Nat := Nat.xor (Nat.land e f) (Nat.land (Nat.sub 4294967295 e) g)
def qmj (a b c : Nat) : Nat := Nat.xor (Nat.xor (Nat.land a b) (Nat.land a c)) (Nat.land b c)

theorem qgA_eq (x : Nat) : qgA x = sgA x := rfl
theorem qgB_eq (x : Nat) : qgB x = sgB x := rfl
theorem qE_eq (x : Nat) : qE x = bgE x := rfl
theorem qA_eq (x : Nat) : qA x = bgA x := rfl

/-- The rounds, with the plan's next sixteen words at hand. -/
def qgo : List Nat → Nat → Nat → Nat → Nat → Nat → Nat → Nat → Nat → Nat → Nat → Nat → Nat → Nat → Nat → Nat → Nat → Nat → Nat → Nat → Nat → Nat → Nat → Nat → Nat → St
  | [], _, _, _, _, _, _, _, _, _, _, _, _, _, _, _, _, a, b, c, d, e, f, g, h => ⟨a, b, c, d, e, f, g, h⟩
  | k :: K, w0, w1, w2, w3, w4, w5, w6, w7, w8, w9, w10, w11, w12, w13, w14, w15, a, b, c, d, e, f, g, h =>
    frc (Nat.mod (Nat.add (Nat.add (Nat.add (Nat.add h (qE e)) (qch e f g)) k) w0) 4294967296) fun t =>
    frc (Nat.mod (Nat.add (Nat.add t (qA a)) (qmj a b c)) 4294967296) fun a' =>
    frc (Nat.mod (Nat.add d t) 4294967296) fun e' =>
    frc (Nat.mod (Nat.add (Nat.add (Nat.add w0 (qgA w1)) w9) (qgB w14)) 4294967296) fun w16 =>
    qgo K w1 w2 w3 w4 w5 w6 w7 w8 w9 w10 w11 w12 w13 w14 w15 w16 a' a b c e' e f g

def wv (bs : List Nat) (i : Nat) : Nat := nextW bs (sched bs i) i
theorem sched_getD (bs : List Nat) : ∀ n i, i < n → (sched bs n).getD i 0 = wv bs i
  | 0, i, h => by omega
  | n + 1, i, h => by
    simp only [sched]
    rcases Nat.lt_or_ge i n with h1 | h1
    · rw [← sched_getD bs n i h1]
      simp [List.getD, List.getElem?_append_left, sched_length, h1]
    · have : i = n := by omega
      subst this
      simp [List.getD, sched_length, wv]
theorem wv_more (bs : List Nat) (i : Nat) : wv bs (i + 16) = (wv bs i + sgA (wv bs (i + 1)) + wv bs (i + 9) + sgB (wv bs (i + 14))) % 4294967296 := by
  have h : wv bs (i + 16) = more (sched bs (i + 16)) (i + 16) := by unfold wv nextW; rw [if_neg (by omega)]
  rw [h]
  unfold more
  rw [sched_getD _ _ _ (by omega), sched_getD _ _ _ (by omega), sched_getD _ _ _ (by omega), sched_getD _ _ _ (by omega)]
  rw [show i + 16 - 16 = i by omega, show i + 16 - 15 = i + 1 by omega, show i + 16 - 7 = i + 9 by omega, show i + 16 - 2 = i + 14 by omega]

theorem qgo_runs (K bs : List Nat) (s : St) (hk : K.length = 64) : ∀ (m n : Nat), n + m = 64 →
    qgo (K.drop n) (wv bs n) (wv bs (n + 1)) (wv bs (n + 2)) (wv bs (n + 3)) (wv bs (n + 4)) (wv bs (n + 5)) (wv bs (n + 6)) (wv bs (n + 7)) (wv bs (n + 8)) (wv bs (n + 9)) (wv bs (n + 10)) (wv bs (n + 11)) (wv bs (n + 12)) (wv bs (n + 13)) (wv bs (n + 14)) (wv bs (n + 15))
      (runs K (sched bs 64) s n).a (runs K (sched bs 64) s n).b (runs K (sched bs 64) s n).c (runs K (sched bs 64) s n).d (runs K (sched bs 64) s n).e (runs K (sched bs 64) s n).f (runs K (sched bs 64) s n).g (runs K (sched bs 64) s n).h = runs K (sched bs 64) s 64
  | 0, n, h => by
    obtain rfl : n = 64 := by omega
    rw [List.drop_of_length_le (by omega)]
    rfl
  | m + 1, n, h => by
    have hd : K.drop n = K.getD n 0 :: K.drop (n + 1) := by
      have hl : n < K.length := by omega
      rw [List.drop_eq_getElem_cons hl]
      simp [List.getD, hl]
    have ih := qgo_runs K bs s hk m (n + 1) (by omega)
    rw [hd]
    simp only [qgo, frc_eq]
    rw [← ih]
    have e : runs K (sched bs 64) s (n + 1) = rnd (runs K (sched bs 64) s n) (K.getD n 0) (wv bs n) := by
      rw [← sched_getD bs 64 n (by omega)]; rfl
    have hw : wv bs (n + 1 + 15) = Nat.mod (Nat.add (Nat.add (Nat.add (wv bs n) (qgA (wv bs (n + 1)))) (wv bs (n + 9))) (qgB (wv bs (n + 14)))) 4294967296 := wv_more bs n
    rw [← hw, e]
    simp only [show n + 1 + 1 = n + 2 by omega, show n + 1 + 2 = n + 3 by omega, show n + 1 + 3 = n + 4 by omega, show n + 1 + 4 = n + 5 by omega, show n + 1 + 5 = n + 6 by omega, show n + 1 + 6 = n + 7 by omega, show n + 1 + 7 = n + 8 by omega, show n + 1 + 8 = n + 9 by omega, show n + 1 + 9 = n + 10 by omega, show n + 1 + 10 = n + 11 by omega, show n + 1 + 11 = n + 12 by omega, show n + 1 + 12 = n + 13 by omega, show n + 1 + 13 = n + 14 by omega, show n + 1 + 14 = n + 15 by omega]
    rfl


/-- A block's words out of its bytes. -/
def qwords : List Nat → List Nat
  | p :: q :: r :: s :: l => frc (Nat.add (Nat.add (Nat.add (Nat.mul p 16777216) (Nat.mul q 65536)) (Nat.mul r 256)) s) fun w => w :: qwords l
  | _ => []
theorem qwords_getD : ∀ (l : List Nat) (i : Nat), 4 * i + 3 < l.length → (qwords l).getD i 0 = word l i
  | [], i, h => by simp at h
  | [_], i, h => by simp at h
  | [_, _], i, h => by simp at h; omega
  | [_, _, _], i, h => by simp at h; omega
  | p :: q :: r :: s :: l, 0, h => by
    simp only [qwords, frc_eq]
    rfl
  | p :: q :: r :: s :: l, i + 1, h => by
    have ih := qwords_getD l i (by simp at h; omega)
    simp only [qwords, frc_eq]
    rw [show (∀ (x : Nat) (m : List Nat), (x :: m).getD (i + 1) 0 = m.getD i 0) from fun _ _ => by simp [List.getD], ih]
    unfold word
    rw [show 4 * (i + 1) = 4 * i + 4 by omega]
    simp [List.getD]

def qadd (x y : Nat) : Nat := Nat.mod (Nat.add x y) 4294967296
def qblk (K : List Nat) (ws : St) (W : List Nat) : St :=
  frc (W.getD 0 0) fun w0 => frc (W.getD 1 0) fun w1 => frc (W.getD 2 0) fun w2 => frc (W.getD 3 0) fun w3 => frc (W.getD 4 0) fun w4 => frc (W.getD 5 0) fun w5 => frc (W.getD 6 0) fun w6 => frc (W.getD 7 0) fun w7 =>
  frc (W.getD 8 0) fun w8 => frc (W.getD 9 0) fun w9 => frc (W.getD 10 0) fun w10 => frc (W.getD 11 0) fun w11 => frc (W.getD 12 0) fun w12 => frc (W.getD 13 0) fun w13 => frc (W.getD 14 0) fun w14 => frc (W.getD 15 0) fun w15 =>
  St.casesOn ws fun a b c d e f g h =>
  St.casesOn (qgo K w0 w1 w2 w3 w4 w5 w6 w7 w8 w9 w10 w11 w12 w13 w14 w15 a b c d e f g h) fun a' b' c' d' e' f' g' h' =>
  frc (qadd a a') fun a => frc (qadd b b') fun b => frc (qadd c c') fun c => frc (qadd d d') fun d => frc (qadd e e') fun e => frc (qadd f f') fun f => frc (qadd g g') fun g => frc (qadd h h') fun h => ⟨a, b, c, d, e, f, g, h⟩

theorem qblk_eq (K : List Nat) (ws : St) (W bs : List Nat) (hk : K.length = 64) (h : ∀ i, i < 16 → W.getD i 0 = wv bs i) (R : St) (hR : runs K (sched bs 64) ws 64 = R) : (qblk K ws W).list = addw ws.list R.list := by
  have hr := qgo_runs K bs ws hk 64 0 (by omega)
  rw [hR] at hr
  clear hR
  unfold qblk
  simp only [frc_eq]
  rw [h 0 (by omega), h 1 (by omega), h 2 (by omega), h 3 (by omega), h 4 (by omega), h 5 (by omega), h 6 (by omega), h 7 (by omega), h 8 (by omega), h 9 (by omega), h 10 (by omega), h 11 (by omega), h 12 (by omega), h 13 (by omega), h 14 (by omega), h 15 (by omega)]
  clear h
  generalize wv bs = v at hr ⊢
  obtain ⟨a, b, c, d, e, f, g, h⟩ := ws
  simp only [List.drop_zero, runs, Nat.zero_add] at hr
  simp only [hr]
  rfl

def qrun (K : List Nat) : Nat → List Nat → St → St
  | 0, _, s => s
  | n + 1, W, s => qrun K n (W.drop 16) (qblk K s W)
theorem qwords_drop : ∀ (k : Nat) (l : List Nat), 4 * k ≤ l.length → (qwords l).drop k = qwords (l.drop (4 * k))
  | 0, l, _ => by simp
  | k + 1, [], h => by simp at h
  | k + 1, [_], h => by simp at h; omega
  | k + 1, [_, _], h => by simp at h; omega
  | k + 1, [_, _, _], h => by simp at h; omega
  | k + 1, p :: q :: r :: s :: l, h => by
    have ih := qwords_drop k l (by simp at h; omega)
    simp only [qwords, frc_eq, List.drop_succ_cons]
    rw [ih, show 4 * (k + 1) = 4 * k + 1 + 1 + 1 + 1 by omega]
    simp
theorem word_take (l : List Nat) (n i : Nat) (h : 4 * i + 3 < n) : word (l.take n) i = word l i := by
  unfold word
  simp only [List.getD, List.getElem?_take]
  rw [if_pos (by omega), if_pos (by omega), if_pos (by omega), if_pos (by omega)]
theorem stOf_list (s : St) : stOf s.list = s := by cases s; rfl
theorem qrun_eq (l : List Nat) (hk : kws.length = 64) : ∀ (m n : Nat) (s : St), s.list = wordsAt l n → 64 * (n + m) ≤ l.length → (qrun kws m (qwords (l.drop (64 * n))) s).list = wordsAt l (n + m)
  | 0, n, s, hs, _ => hs
  | m + 1, n, s, hs, hl => by
    have e : (qwords (l.drop (64 * n))).drop 16 = qwords (l.drop (64 * (n + 1))) := by
      rw [qwords_drop 16 _ (by rw [List.length_drop]; omega), List.drop_drop]
      congr 2
    have hb : (qblk kws s (qwords (l.drop (64 * n)))).list = wordsAt l (n + 1) := by
      rw [qblk_eq kws s (qwords (l.drop (64 * n))) ((l.drop (64 * n)).take 64) hk (fun i hi => by
        rw [qwords_getD _ _ (by rw [List.length_drop]; omega)]
        unfold wv nextW
        rw [if_pos hi, word_take _ _ _ (by omega)]) _ rfl]
      show _ = comp (wordsAt l n) _
      unfold comp
      rw [← hs, stOf_list]
    have ih := qrun_eq l hk m (n + 1) _ hb (by omega)
    show (qrun kws m ((qwords (l.drop (64 * n))).drop 16) (qblk kws s (qwords (l.drop (64 * n))))).list = _
    rw [e, ih, show n + 1 + m = n + (m + 1) by omega]
def qsha (m : Nat) (l : List Nat) : List Nat := (qrun kws m (qwords (pad l)) (stOf firsts)).list.flatMap four
theorem qsha_eq (m : Nat) (l : List Nat) (h : l.length + 64 - (l.length + 8) % 64 + 8 = 64 * m) : qsha m l = sha l := by
  have e := qrun_eq (pad l) (by decide +kernel) m 0 (stOf firsts) rfl (by rw [pad_length]; omega)
  unfold qsha sha
  rw [Nat.mul_zero, List.drop_zero, Nat.zero_add] at e
  rw [e, pad_length, h, Nat.mul_div_cancel_left _ (by omega)]
set_option maxRecDepth 100000 in
theorem abcq : qsha 1 [97, 98, 99] = [186, 120, 22, 191, 143, 1, 207, 234, 65, 65, 64, 222, 93, 174, 34, 35, 176, 3, 97, 163, 150, 23, 122, 156, 180, 16, 255, 97, 242, 0, 21, 173] := by decide +kernel
end Go.Proofs.YtkonokjhpddbfaaDoor
