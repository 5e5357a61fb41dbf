/-
  money.Back (function 48): for every amount and every list of at most 200 fees the answer is the list of amounts, the last one first reckoned, or why there is none; memory that was there stays as it was.
-/
import Derived.Test.YtnnimjaigciedaaM13
import Derived.Deep.RegionHeld3
namespace Go.Proofs.Ytnnimjaigciedaa.Mon
open Go.RowKit
set_option linter.unusedVariables false

/-- The amounts of a way, and why there are none. -/
def backE (x : Int) : List (Int × Int) → Int × List Int
  | [] => (0, [x])
  | f :: r => match backE x r with
    | (e, l) => if e ≠ 0 then (e, []) else if overE f.1 f.2 (l.headD 0) ≠ 0 then (overE f.1 f.2 (l.headD 0), []) else (0, overV f.1 f.2 (l.headD 0) :: l)

theorem u64_info : (Try.prog.info? 40).map (fun i => (i.zero, i.size, i.bytes)) = some (some (.int .u64 0), 1, 8) := by kernel_rfl

/-- Numbers as cells. -/
def nums (l : List Int) : List Value := l.map (Value.int .u64)

/-- What is known at a round's head: the last numbers are reckoned, the others are 0. -/
def Backs (x : Int) (fs : List (Int × Int)) (k : Nat) (l : List Int) : Prop := backE x (fs.drop k) = (0, l) ∧ l.length = fs.length - k + 1 ∧ (∀ n ∈ l, Word n) ∧ k ≤ fs.length

theorem Backs.start (x : Int) (fs : List (Int × Int)) (len : Nat) (hl : fs.length = len) (hx : Word x) : Backs x fs len [x] := by
  refine ⟨?_, by simp; omega, by simpa using hx, by omega⟩
  rw [List.drop_eq_nil_of_le (by omega)]
  rfl

theorem own_below {w w' : World} {base : Nat} {e : TypeId} {size n : Nat} {v : Value} {xs : List Value} (h : w.ownsRow base e size v n xs) (hB : Below w.heap.size w w') : w'.ownsRow base e size v n xs := by
  refine ⟨h.1, ?_⟩
  rcases h.2 with h1 | ⟨g, cap, cur, hv, hb, hg, rest⟩
  · exact .inl h1
  · have hlt : g < w.heap.size := by
      rcases Nat.lt_or_ge g w.heap.size with h2 | h2
      · exact h2
      · rw [Array.getElem?_eq_none h2] at hg; cases hg
    exact .inr ⟨g, cap, cur, hv, hb, (hB.block g hlt).trans hg, rest⟩

theorem set_last (n : Nat) (x : Int) : (List.replicate (n + 1) (Value.int .u64 0)).set n (.int .u64 x) = nums (List.replicate n 0 ++ [x]) := by
  apply List.ext_getElem?
  intro j
  simp only [nums, List.getElem?_set, List.length_replicate, List.map_append, List.map_replicate, List.getElem?_append, List.getElem?_replicate]
  by_cases h1 : n = j
  · subst h1
    simp
  · by_cases h2 : j < n
    · simp [h1, h2, Nat.lt_succ_of_lt h2]
    · have h3 : ¬ j < n + 1 := by omega
      simp [h1, h2, h3]
      omega

theorem set_back (i : Nat) (l : List Int) (v : Int) : (nums (List.replicate (i + 1) 0 ++ l)).set i (.int .u64 v) = nums (List.replicate i 0 ++ v :: l) := by
  have e : List.replicate (i + 1) (0 : Int) ++ l = List.replicate i 0 ++ 0 :: l := by
    rw [List.replicate_succ', List.append_assoc]
    rfl
  rw [e]
  simp [nums]

theorem drop_fee (fs : List (Int × Int)) (k : Nat) (hk : k < fs.length) : fs.drop k = fs.getD k (0, 0) :: fs.drop (k + 1) := by
  have e : fs.getD k (0, 0) = fs[k] := by simp [List.getD, hk]
  rw [e]
  exact List.drop_eq_getElem_cons hk

theorem Backs.word {x : Int} {fs : List (Int × Int)} {k : Nat} {l : List Int} {y : Int} (h : Backs x fs k l) (hy : l.headD 0 = y) : Word y := by
  obtain ⟨_, h2, h3, _⟩ := h
  cases l with
  | nil => simp at h2
  | cons a r => rw [← hy]; exact h3 a (by simp)

theorem Backs.head {x : Int} {fs : List (Int × Int)} {k : Nat} {l : List Int} {y : Int} (h : Backs x fs k l) (hy : l.headD 0 = y) (n : Nat) : (nums (List.replicate n 0 ++ l))[n]? = some (.int .u64 y) := by
  obtain ⟨_, h2, _, _⟩ := h
  cases l with
  | nil => simp at h2
  | cons a r =>
    rw [← hy]
    simp [nums]

theorem Backs.next {x : Int} {fs : List (Int × Int)} {i : Nat} {l : List Int} {y f1 f2 : Int} (h : Backs x fs (i + 1) l) (hf : fs.getD i (0, 0) = (f1, f2)) (hy : l.headD 0 = y) (hi : i < fs.length) (h1 : Word f1) (h2 : Word f2) (ho : overE f1 f2 y = 0) :
    Backs x fs i (overV f1 f2 y :: l) := by
  have hw := h.word hy
  obtain ⟨a, b, c, d⟩ := h
  refine ⟨?_, by simp; omega, ?_, by omega⟩
  · rw [drop_fee fs i hi, hf, backE, a]
    simp only [hy]
    simp [ho]
  · intro n hn
    rcases List.mem_cons.1 hn with rfl | hn
    · exact overV_word h1 h2 hw
    · exact c n hn

theorem back_err (x e : Int) (r p : List (Int × Int)) (h : backE x r = (e, [])) (he : e ≠ 0) : backE x (p ++ r) = (e, []) := by
  induction p with
  | nil => exact h
  | cons f p ih => rw [List.cons_append, backE, ih]; simp [he]

theorem Backs.fails {x : Int} {fs : List (Int × Int)} {i : Nat} {l : List Int} {y f1 f2 : Int} (h : Backs x fs (i + 1) l) (hf : fs.getD i (0, 0) = (f1, f2)) (hy : l.headD 0 = y) (hi : i < fs.length) (ho : overE f1 f2 y ≠ 0) :
    backE x fs = (overE f1 f2 y, []) := by
  obtain ⟨a, b, c, d⟩ := h
  have e : backE x (fs.drop i) = (overE f1 f2 y, []) := by
    rw [drop_fee fs i hi, hf, backE, a]
    simp only [hy]
    simp [ho]
  rw [← List.take_append_drop i fs]
  exact back_err x _ _ _ e ho

set_option maxRecDepth 100000 in
set_option maxHeartbeats 2000000 in
theorem back_core (x : Int) (b off cap len : Nat) (fs : List (Int × Int)) (w : World) (hx : Word x) (HN : Hid (FeeRow w (some ⟨b, off, none⟩) fs)) (hb : b < w.heap.size) (HL : Hid (fs.length = len)) (hlen : len ≤ 200) (h0 : 0 < len)
    (HC : Hid (∀ i, i < fs.length → w.cell? ⟨b, off + i * 2, none⟩ = some (.int .u64 (fs.getD i (0, 0)).1) ∧ w.cell? ⟨b, off + i * 2 + 1, none⟩ = some (.int .u64 (fs.getD i (0, 0)).2))) :
    Calls Try.prog 87 #[.int .u64 x, .slice (some ⟨b, off, none⟩) len cap] w fun e w' => ∃ v, e = .returned (.tuple #[v, .int .i64 (backE x fs).1]) ∧ w'.ownsRow w.heap.size 40 1 v (backE x fs).2.length (nums (backE x fs).2) ∧ Below w.heap.size w w' := by
  obtain ⟨i0, hi, hz0, hz1, hz2⟩ := info_parts u64_info
  go_enter Try.func87, Try.ntmps87
  go_wp2_with (at_make; refine wpList_make_full _ rfl (.tmp 12) (.tmp 12) 85 rfl w.heap.size 40 i0 (.int .u64 0) 1 Try.underlying85 hi hz0 hz1 .i64 .i64 _ _ (len + 1) rfl rfl ?c1 ?c2 ?c3 ?c4 ?c5 ?_)
  case c1 => omega
  case c2 => omega
  case c3 => rw [hz2]; omega
  case c4 => unfold maxLen; omega
  case c5 => exact Nat.le_refl _
  intro w1 hown hg
  have hB : Below w.heap.size w w1 := (Below.refl _ _).grown hg (Nat.le_refl _) (by simp)
  have HO := Lib.hid hown
  have HB := Lib.hid hB
  have hcl : w1.cell? ⟨w.heap.size, len, none⟩ = some (.int .u64 0) := by
    rw [hown.cellAt len (by omega)]
    show ((madeCells #[Value.int .u64 0] (len + 1)).toList)[len]? = _
    rw [toList_madeCells_one, List.getElem?_replicate, if_pos (by omega)]
  have hfz : w1.frozen? ⟨w.heap.size, len, none⟩ = false := hown.frozenAt len
  clear hown hB hg
  go_wp2
  go_loopw [7, 8, 9] (fun i _ _ wr => ∃ (k : Nat) (l : List Int), k ≤ len ∧ i = .int .i64 ((k : Int) - 1) ∧ Hid (Backs x fs k l) ∧ Hid (wr.ownsRow w.heap.size 40 1 (.slice (some ⟨w.heap.size, 0, none⟩) (len + 1) (len + 1)) (len + 1) (nums (List.replicate k 0 ++ l))) ∧ Hid (Below w.heap.size w wr)) (fun i _ _ _ => (intOf i + 1).toNat)
  case atStart =>
    refine ⟨len, [x], Nat.le_refl _, rfl, Lib.hid ?_, Lib.hid ?_, Lib.hid (HB.out.setCell (Nat.le_refl _) _)⟩
    · exact Backs.start x fs len HL.out hx
    · have := (HO.out.stored len (.int .u64 x)).1
      rw [toList_madeCells_one, set_last] at this
      exact this
  case round =>
    obtain ⟨k, l, hk, rfl, HK, HR, HW⟩ := hrel
    clear HO HB hcl hfz
    by_cases hk0 : k = 0
    · subst hk0
      go_wp2
      go_ret2
      have hE : backE x fs = (0, l) := HK.out.1
      have hl := HK.out.2.1
      refine ⟨_, by rw [hE]; rfl, ?_, HW.out⟩
      rw [hE]
      show World.ownsRow _ _ _ _ _ l.length (nums l)
      rw [hl, HL.out]
      exact HR.out
    · obtain ⟨i, rfl⟩ : ∃ i, k = i + 1 := ⟨k - 1, by omega⟩
      clear hk0
      have e : ((i + 1 : Nat) : Int) - 1 = i := by omega
      rw [e]
      clear e
      obtain ⟨f, hf⟩ : ∃ f, fs.getD i (0, 0) = f := ⟨_, rfl⟩
      obtain ⟨hc1, hc2⟩ := HC.out i (by rw [HL.out]; omega)
      rw [hf] at hc1 hc2
      obtain ⟨f1, f2⟩ := f
      simp only at hc1 hc2
      rw [← HW.out.cell (p := ⟨b, off + i * 2, none⟩) hb] at hc1
      rw [← HW.out.cell (p := ⟨b, off + i * 2 + 1, none⟩) hb] at hc2
      obtain ⟨y, hy⟩ : ∃ y, l.headD 0 = y := ⟨_, rfl⟩
      have hc3 : wr.cell? ⟨w.heap.size, i + 1, none⟩ = some (.int .u64 y) := by
        rw [HR.out.cellAt (i + 1) (by omega)]
        exact HK.out.head hy (i + 1)
      have hwy : Word y := HK.out.word hy
      have hw1 : Word f1 := by have := (HN.out.word i).1; rw [hf] at this; exact this
      have hw2 : Word f2 := by have := (HN.out.word i).2; rw [hf] at this; exact this
      have HF := Lib.hid hf
      have HY := Lib.hid hy
      clear hf hy
      have hbr : b < wr.heap.size := Nat.lt_of_lt_of_le hb HW.out.size
      have hgr : w.heap.size < wr.heap.size := (HR.out.lt w.heap.size rfl).2
      have q1 : IntKind.i64.wrap ((i : Int) + 1) = (i : Int) + 1 := IntWalk.i64_in _ ⟨by omega, by omega⟩
      have q2 : (0 : Int) ≤ (i : Int) := by omega
      have q3 : (i : Int) < (len : Int) := by omega
      have q4 : (0 : Int) ≤ (i : Int) + 1 := by omega
      have q5 : (i : Int) + 1 < (len : Int) + 1 := by omega
      have q6 : ((i : Int) + 1).toNat = i + 1 := by omega
      go_wp2_with fail
      go_region_held3 (fun w' => w'.cell? ⟨b, off + i * 2, none⟩ = some (.int .u64 f1) ∧ w'.cell? ⟨b, off + i * 2 + 1, none⟩ = some (.int .u64 f2) ∧ w'.cell? ⟨w.heap.size, i + 1, none⟩ = some (.int .u64 y)) (first | exact ⟨hc1, hc2, hc3⟩ | exact ⟨(hB2.cell (p := ⟨b, off + i * 2, none⟩) hbr).trans hc1, (hB2.cell (p := ⟨b, off + i * 2 + 1, none⟩) hbr).trans hc2, (hB2.cell (p := ⟨w.heap.size, i + 1, none⟩) hgr).trans hc3⟩) (first | (go_at_call 105; refine (over_any _ _ _ _ hw1 hw2 hwy).mono ?_; rintro e w2 ⟨rfl, hB2⟩))
      clear q1 q2 q3 q4 q5 q6
      have HR2 := Lib.hid (own_below HR.out (Below.trans (Below.refl _ _).drew hB2))
      have HW2 := Lib.hid (HW.out.trans ((Below.trans (Below.refl _ _).drew hB2).mono HW.out.size))
      have hc4 : w2.cell? ⟨w.heap.size, i, none⟩ = some (.int .u64 0) := by
        rw [HR2.out.cellAt i (by omega)]
        simp [nums, List.getElem?_append]
      have hf4 : w2.frozen? ⟨w.heap.size, i, none⟩ = false := HR2.out.frozenAt i
      by_cases ho : overE f1 f2 y = 0
      · have b0 : (overE f1 f2 y != 0) = false := by simp [ho]
        have HS := Lib.hid (HK.out.next HF.out HY.out (by rw [HL.out]; omega) hw1 hw2 ho)
        have HR3 := Lib.hid (HR2.out.stored i (.int .u64 (overV f1 f2 y))).1
        have e3 : (nums (List.replicate (i + 1) 0 ++ l)).set i (.int .u64 (overV f1 f2 y)) = nums (List.replicate i 0 ++ overV f1 f2 y :: l) := set_back i l _
        clear ho hB2
        have HE := Lib.hid e3
        clear e3
        go_wp2
        go_roundw
        case rel => exact ⟨i, overV f1 f2 y :: l, by omega, by go_num, HS, Lib.hid (by have := HR3.out; rw [HE.out] at this; exact this), Lib.hid (HW2.out.setCell (Nat.le_refl _) _)⟩
        case measure => simp [intOf]
      · have b0 : (overE f1 f2 y != 0) = true := by simpa using ho
        have HS := Lib.hid (HK.out.fails HF.out HY.out (by rw [HL.out]; omega) ho)
        clear ho hB2
        go_wp2
        go_ret2
        exact ⟨.slice none 0 0, by rw [HS.out]; rfl, by rw [HS.out]; exact ⟨rfl, .inl ⟨rfl, rfl⟩⟩, HW2.out⟩
set_option maxRecDepth 100000 in
set_option maxHeartbeats 1000000 in
theorem back_none (x : Int) (a : Option Addr) (cap : Nat) (w : World) (hx : Word x) :
    Calls Try.prog 87 #[.int .u64 x, .slice a 0 cap] w fun e w' => ∃ v, e = .returned (.tuple #[v, .int .i64 0]) ∧ w'.ownsRow w.heap.size 40 1 v 1 (nums [x]) ∧ Below w.heap.size w w' := by
  obtain ⟨i0, hi, hz0, hz1, hz2⟩ := info_parts u64_info
  go_enter Try.func87, Try.ntmps87
  go_wp2_with (at_make; refine wpList_make_full _ rfl (.tmp 12) (.tmp 12) 85 rfl w.heap.size 40 i0 (.int .u64 0) 1 Try.underlying85 hi hz0 hz1 .i64 .i64 _ _ 1 rfl rfl ?c1 ?c2 ?c3 ?c4 ?c5 ?_)
  case c1 => rfl
  case c2 => rfl
  case c3 => rw [hz2]; omega
  case c4 => unfold maxLen; omega
  case c5 => exact Nat.le_refl _
  intro w1 hown hg
  have hB : Below w.heap.size w w1 := (Below.refl _ _).grown hg (Nat.le_refl _) (by simp)
  have HO := Lib.hid hown
  have HB := Lib.hid hB
  have hcl : w1.cell? ⟨w.heap.size, 0, none⟩ = some (.int .u64 0) := by
    rw [hown.cellAt 0 (by omega)]
    show ((madeCells #[Value.int .u64 0] 1).toList)[0]? = _
    rw [toList_madeCells_one, List.getElem?_replicate, if_pos (by omega)]
  have hfz : w1.frozen? ⟨w.heap.size, 0, none⟩ = false := hown.frozenAt 0
  clear hown hB hg
  go_wp2
  refine wp_loop_rounds 1 ?_
  rw [rounds_succ]
  go_wp2
  go_ret2
  refine ⟨_, rfl, ?_, HB.out.setCell (Nat.le_refl _) _⟩
  have := (HO.out.stored 0 (.int .u64 x)).1
  rw [toList_madeCells_one] at this
  exact this

/-- Numbers that the call made: a slice that reads as the list. -/
theorem Nums.of_own {w : World} {base : Nat} {v : Value} {l : List Int} (h : w.ownsRow base 40 1 v l.length (nums l)) (hw : ∀ n ∈ l, Word n) (hl : l.length ≤ 9223372036854775807) : ∃ a c, v = .slice a l.length c ∧ Nums w a l := by
  rcases h.2 with ⟨rfl, h0⟩ | ⟨g, c, cur, rfl, _, hg, _⟩
  · have : l = [] := List.eq_nil_of_length_eq_zero h0
    subst this
    exact ⟨none, 0, rfl, .inl rfl, hw, hl⟩
  · refine ⟨_, c, rfl, .inr ⟨g, 0, rfl, ?_, fun i hi => ?_⟩, hw, hl⟩
    · rcases Nat.lt_or_ge g w.heap.size with h2 | h2
      · exact h2
      · rw [Array.getElem?_eq_none h2] at hg; cases hg
    · rw [Nat.zero_add, h.cellAt i (by omega)]
      simp [nums, List.getD, hi]

theorem backE_word (x : Int) (fs : List (Int × Int)) (hx : Word x) (hf : ∀ f ∈ fs, Word f.1 ∧ Word f.2) : (∀ n ∈ (backE x fs).2, Word n) ∧ (backE x fs).2.length ≤ fs.length + 1 ∧ ((backE x fs).1 = 0 → (backE x fs).2.length = fs.length + 1) ∧ ((backE x fs).1 ≠ 0 → (backE x fs).2 = []) := by
  induction fs with
  | nil => exact ⟨by simpa [backE] using hx, by simp [backE], by simp [backE], by simp [backE]⟩
  | cons f r ih =>
    obtain ⟨i1, i2, i3, i4⟩ := ih fun g hg => hf g (by simp [hg])
    rw [backE]
    generalize hb : backE x r = b at *
    obtain ⟨e, l⟩ := b
    simp only at i1 i2 i3 i4 ⊢
    have hy : Word (l.headD 0) := by
      cases l with
      | nil => simp [Word]
      | cons a q => exact i1 a (by simp)
    split
    · simp_all
    · split
      · simp_all
      · refine ⟨?_, by simp; omega, fun _ => by simp; omega, fun h => absurd rfl h⟩
        intro n hn
        rcases List.mem_cons.1 hn with rfl | hn
        · exact overV_word (hf f (by simp)).1 (hf f (by simp)).2 hy
        · exact i1 n hn

/-- money.Back: a slice of numbers and a number. -/
theorem back_any (x : Int) (a : Option Addr) (cap : Nat) (fs : List (Int × Int)) (w : World) (hx : Word x) (hN : FeeRow w a fs) (hlen : fs.length ≤ 200) :
    Calls Try.prog 87 #[.int .u64 x, .slice a fs.length cap] w fun e w' => ∃ a' c', e = .returned (.tuple #[.slice a' (backE x fs).2.length c', .int .i64 (backE x fs).1]) ∧ Nums w' a' (backE x fs).2 ∧ Below w.heap.size w w' := by
  have hw := backE_word x fs hx hN.2
  have key : Calls Try.prog 87 #[.int .u64 x, .slice a fs.length cap] w fun e w' => ∃ v, e = .returned (.tuple #[v, .int .i64 (backE x fs).1]) ∧ w'.ownsRow w.heap.size 40 1 v (backE x fs).2.length (nums (backE x fs).2) ∧ Below w.heap.size w w' := by
    rcases hN.1 with rfl | ⟨b, off, rfl, hb, hc⟩
    · exact back_none x a cap w hx
    · by_cases h0 : fs.length = 0
      · have : fs = [] := List.eq_nil_of_length_eq_zero h0
        subst this
        exact back_none x _ cap w hx
      · exact back_core x b off cap fs.length fs w hx (Lib.hid hN) hb (Lib.hid rfl) hlen (by omega) (Lib.hid hc)
  refine key.mono fun e w' ⟨v, he, ho, hB⟩ => ?_
  obtain ⟨a', c', rfl, hn⟩ := Nums.of_own ho hw.1 (by omega)
  exact ⟨a', c', he, hn, hB⟩

end Go.Proofs.Ytnnimjaigciedaa.Mon
