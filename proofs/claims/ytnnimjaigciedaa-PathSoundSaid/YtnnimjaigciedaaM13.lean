/-
  What the two sums of a list answer (money.Sum, function 39; tollhouseref02.Sum, function 40), for every list: from 0 on, Add of each.
  What a walk is told of a slice of integers that came in, and what it makes of it: a list of numbers that are read.
  tollhouselaw02.Fees (function 47): fees of the document as the program's: for every list of at most 200 the answer reads as the same numbers; memory that was there stays as it was.
-/
import Derived.Test.YtnnimjaigciedaaM12
import Derived.ProofKit
import Derived.OpenShut
import Derived.ShutString
import Derived.ChangeOld
namespace Go.Proofs.Ytnnimjaigciedaa.Mon
open Go.RowKit
set_option linter.unusedVariables false

/-- A slice of numbers of 64 bits, read as a list. -/
def Nums (w : World) (a : Option Addr) (xs : List Int) : Prop :=
  (xs = [] ∨ ∃ b off, a = some ⟨b, off, none⟩ ∧ b < w.heap.size ∧ ∀ i, i < xs.length → w.cell? ⟨b, off + i, none⟩ = some (.int .u64 (xs.getD i 0))) ∧ (∀ n ∈ xs, Word n) ∧ xs.length ≤ 9223372036854775807

theorem Nums.below {w w' : World} {a : Option Addr} {xs : List Int} (h : Nums w a xs) (hB : Below w.heap.size w w') : Nums w' a xs := by
  obtain ⟨h1, h2, h3⟩ := h
  refine ⟨?_, h2, h3⟩
  rcases h1 with h1 | ⟨b, off, h4, h5, h6⟩
  · exact .inl h1
  · exact .inr ⟨b, off, h4, Nat.lt_of_lt_of_le h5 hB.size, fun i hi => by rw [hB.cell (p := ⟨b, off + i, none⟩) h5]; exact h6 i hi⟩

theorem Nums.drewN {w : World} {a : Option Addr} {xs : List Int} (h : Nums w a xs) (n : Nat) : Nums (w.drewN n) a xs := h.below (below_drewN (Below.refl _ _) n)

theorem getD_at (xs : List Int) (k : Nat) (h : k < xs.length) : xs.getD k 0 = xs[k] := by simp [List.getD, h]
theorem getD_out (xs : List Int) (k : Nat) (h : xs.length ≤ k) : xs.getD k 0 = 0 := by simp [List.getD, h]

theorem Nums.getD_word {w : World} {a : Option Addr} {xs : List Int} (h : Nums w a xs) (k : Nat) : Word (xs.getD k 0) := by
  by_cases hk : k < xs.length
  · rw [getD_at _ _ hk]
    exact h.2.1 _ (List.getElem_mem hk)
  · rw [getD_out _ _ (by omega)]
    unfold Word
    omega

def sumGo (s : Int) : List Int → Int × Int
  | [] => (s, 0)
  | a :: r => if addE s a = 0 then sumGo (addV s a) r else (0, 11)
def sumV (l : List Int) : Int := (sumGo 0 l).1
def sumE (l : List Int) : Int := (sumGo 0 l).2

theorem drop_getD (xs : List Int) (k : Nat) (hk : k < xs.length) : xs.drop k = xs.getD k 0 :: xs.drop (k + 1) := by
  rw [getD_at _ _ hk]
  exact List.drop_eq_getElem_cons hk

theorem sum_step {xs : List Int} {s x : Int} {k : Nat} (h : sumGo 0 xs = sumGo s (xs.drop k)) (hk : k < xs.length) (hx : xs.getD k 0 = x) :
    (addE s x = 0 → sumGo 0 xs = sumGo (addV s x) (xs.drop (k + 1))) ∧ (addE s x ≠ 0 → sumV xs = 0 ∧ sumE xs = addE s x) := by
  rw [drop_getD xs k hk, hx] at h
  refine ⟨fun h0 => ?_, fun h0 => ?_⟩
  · rw [h, sumGo, if_pos h0]
  · rw [sumGo, if_neg h0] at h
    rw [sumV, sumE, h]
    rcases addE_cases s x with h1 | h1
    · exact absurd h1 h0
    · exact ⟨rfl, h1.symm⟩

theorem sum_end {xs : List Int} {s : Int} {k : Nat} (h : sumGo 0 xs = sumGo s (xs.drop k)) (hk : xs.length ≤ k) : sumV xs = s ∧ sumE xs = 0 := by
  rw [List.drop_eq_nil_of_le hk] at h
  rw [sumV, sumE, h]
  exact ⟨rfl, rfl⟩

theorem sumV_word (xs : List Int) (h : ∀ n ∈ xs, Word n) : Word (sumV xs) := by
  have key : ∀ (l : List Int) (s : Int), Word s → (∀ n ∈ l, Word n) → Word (sumGo s l).1 := by
    intro l
    induction l with
    | nil => intro s hs _; exact hs
    | cons a r ih =>
      intro s hs hl
      rw [sumGo]
      split
      · exact ih _ (addV_word hs (hl a (by simp))) fun n hn => hl n (by simp [hn])
      · unfold Word; omega
  exact key xs 0 (by unfold Word; omega) h

set_option maxHeartbeats 1000000 in
theorem sum_any (a : Option Addr) (cap : Nat) (xs : List Int) (w : World) (hN : Nums w a xs) :
    Calls Try.prog 57 #[.slice a xs.length cap] w fun e w' => e = .returned (.tuple #[.int .u64 (sumV xs), .int .i64 (sumE xs)]) ∧ w = w' := by
  have HN := Lib.hid hN
  obtain ⟨h1, h2, h3⟩ := hN
  have h2' := Lib.hid h2
  clear h2
  rcases h1 with rfl | ⟨b, off, rfl, hb, hc⟩
  · have e1 : sumV [] = 0 := rfl
    have e2 : sumE [] = 0 := rfl
    rw [e1, e2]
    clear e1 e2
    go_enter Try.func57, Try.ntmps57
    go_wp2
    refine wp_loop_rounds 1 ?_
    rw [rounds_succ]
    go_wp2
    go_ret2
    exact ⟨rfl, rfl⟩
  · have HC := Lib.hid hc
    clear hc
    obtain ⟨len, hlen⟩ : ∃ n, xs.length = n := ⟨_, rfl⟩
    rw [hlen] at h3 ⊢
    have HL := Lib.hid hlen
    clear hlen
    go_enter Try.func57, Try.ntmps57
    go_wp2
    go_loop [4, 11] (fun t i => ∃ (k : Nat) (s : Int), k ≤ len ∧ i = .int .i64 k ∧ t = .int .u64 s ∧ Word s ∧ Hid (sumGo 0 xs = sumGo s (xs.drop k))) (fun _ i => len - (intOf i).toNat)
    case atStart => exact ⟨0, 0, Nat.zero_le _, rfl, rfl, by unfold Word; omega, Lib.hid rfl⟩
    case round =>
      obtain ⟨k, s, hk, rfl, rfl, hs, HS⟩ := hrel
      by_cases hlt : k < len
      · have hxs : k < xs.length := by rw [HL.out]; exact hlt
        obtain ⟨x, hx⟩ : ∃ x, xs.getD k 0 = x := ⟨_, rfl⟩
        have hcell := HC.out k hxs
        rw [hx] at hcell
        have hwx : Word x := hx ▸ HN.out.getD_word k
        have HX := Lib.hid (sum_step HS.out hxs hx)
        clear hx hxs
        by_cases h0 : addE s x = 0
        · have b0 : (addE s x != 0) = false := by simp [h0]
          have HT := Lib.hid (HX.out.1 h0)
          have hw' := addV_word hs hwx
          clear h0
          go_wp2_with (go_at_call 53; refine (add_any _ _ _ hs hwx).mono ?_; rintro e w' ⟨rfl, rfl⟩)
          go_round
          case rel => exact ⟨k + 1, _, by omega, by go_num, rfl, hw', HT⟩
          case measure => simp [intOf]; omega
        · have b0 : (addE s x != 0) = true := by simpa using h0
          have HT := Lib.hid (HX.out.2 h0)
          clear h0
          go_wp2_with (go_at_call 53; refine (add_any _ _ _ hs hwx).mono ?_; rintro e w' ⟨rfl, rfl⟩)
          go_ret2
          exact ⟨by rw [HT.out.1, HT.out.2]; rfl, rfl⟩
      · have HE := Lib.hid (sum_end HS.out (by rw [HL.out]; omega))
        go_wp2
        go_ret2
        exact ⟨by rw [HE.out.1, HE.out.2]; rfl, rfl⟩

theorem sumGo_err {xs : List Int} {s e : Int} {k : Nat} (h : sumGo 0 xs = (s, e)) : sumV xs = s ∧ sumE xs = e := by
  rw [sumV, sumE, h]
  exact ⟨rfl, rfl⟩

/-- Where the document's sum stands: it goes on, or it has ended in an error. -/
def Sums (xs : List Int) (k : Nat) (s e : Int) : Prop := (e = 0 ∧ sumGo 0 xs = sumGo s (xs.drop k)) ∨ (e ≠ 0 ∧ sumV xs = s ∧ sumE xs = e)

set_option maxHeartbeats 1000000 in
theorem rsum_any (a : Option Addr) (cap : Nat) (xs : List Int) (w : World) (hN : Nums w a xs) :
    Calls Try.prog 58 #[.slice a xs.length cap] w fun e w' => e = .returned (.tuple #[.int .u64 (sumV xs), .int .i64 (sumE xs)]) ∧ w = w' := by
  have HN := Lib.hid hN
  obtain ⟨h1, h2, h3⟩ := hN
  have h2' := Lib.hid h2
  clear h2
  rcases h1 with rfl | ⟨b, off, rfl, hb, hc⟩
  · have e1 : sumV [] = 0 := rfl
    have e2 : sumE [] = 0 := rfl
    rw [e1, e2]
    clear e1 e2
    go_enter Try.func58, Try.ntmps58
    go_wp2
    refine wp_loop_rounds 1 ?_
    rw [rounds_succ]
    go_wp2
    go_ret2
    exact ⟨rfl, rfl⟩
  · have HC := Lib.hid hc
    clear hc
    obtain ⟨len, hlen⟩ : ∃ n, xs.length = n := ⟨_, rfl⟩
    rw [hlen] at h3 ⊢
    have HL := Lib.hid hlen
    clear hlen
    go_enter Try.func58, Try.ntmps58
    go_wp2
    go_loop [4, 5, 6] (fun t v i => ∃ (k : Nat) (s e : Int), k ≤ len ∧ i = .int .i64 k ∧ t = .int .u64 s ∧ v = .int .i64 e ∧ Word s ∧ Hid (Sums xs k s e)) (fun _ _ i => len - (intOf i).toNat)
    case atStart => exact ⟨0, 0, 0, Nat.zero_le _, rfl, rfl, rfl, by unfold Word; omega, Lib.hid (.inl ⟨rfl, rfl⟩)⟩
    case round =>
      obtain ⟨k, s, e, hk, rfl, rfl, rfl, hs, HS⟩ := hrel
      by_cases hlt : k < len
      · by_cases he : e = 0
        · subst he
          have hS : sumGo 0 xs = sumGo s (xs.drop k) := by
            rcases HS.out with h | h
            · exact h.2
            · exact absurd rfl h.1
          have hxs : k < xs.length := by rw [HL.out]; exact hlt
          obtain ⟨x, hx⟩ : ∃ x, xs.getD k 0 = x := ⟨_, rfl⟩
          have hcell := HC.out k hxs
          rw [hx] at hcell
          have hwx : Word x := hx ▸ HN.out.getD_word k
          have HX := Lib.hid (sum_step hS hxs hx)
          have hw' := addV_word hs hwx
          clear hx hxs hS
          go_wp2_with (go_at_call 56; refine (radd_any _ _ _ hs hwx).mono ?_; rintro e w' ⟨rfl, rfl⟩)
          go_round
          case rel =>
            refine ⟨k + 1, _, _, by omega, by go_num, rfl, rfl, hw', Lib.hid ?_⟩
            by_cases h0 : addE s x = 0
            · exact .inl ⟨h0, HX.out.1 h0⟩
            · have := HX.out.2 h0
              have hv : addV s x = 0 := by
                unfold addE at h0
                unfold addV
                split at h0
                · exact absurd rfl h0
                · rename_i h; rw [if_neg h]
              exact .inr ⟨h0, by rw [hv]; exact this.1, this.2⟩
          case measure => simp [intOf]; omega
        · have b0 : (e == 0) = false := by simpa using he
          have HE : Hid (sumV xs = s ∧ sumE xs = e) := by
            rcases HS.out with h | h
            · exact absurd h.1 he
            · exact h.2
          clear he
          go_wp2
          go_ret2
          exact ⟨by rw [HE.out.1, HE.out.2]; rfl, rfl⟩
      · have HE : Hid (sumV xs = s ∧ sumE xs = e) := by
          rcases HS.out with h | h
          · have := sum_end h.2 (by rw [HL.out]; omega)
            exact ⟨this.1, by rw [this.2, h.1]⟩
          · exact h.2
        go_wp2
        all_goals
          go_ret2
          exact ⟨by rw [HE.out.1, HE.out.2]; rfl, rfl⟩
end Go.Proofs.Ytnnimjaigciedaa.Mon
namespace Go.Proofs.Ytnnimjaigciedaa.Mon
open Go.ChangeShapes Go.WideShapes Go.ChangeAt Go.RowKit
set_option linter.unusedVariables false

theorem word_wf {x : Int} (h : (Lit.int .u64 x).wf = true) : Word x := by
  simp [Lit.wf, IntKind.min, IntKind.max, IntKind.signed, IntKind.bits] at h
  exact ⟨by omega, by omega⟩

/-- A slice of integers that came in: it is nil; or it leads to a row of so many cells as it has room, each number fitting its kind. -/
def IsRow (k : IntKind) (w : World) (a : Option Addr) (len cap : Nat) (zs : List Int) : Prop :=
  (a = none ∧ len = 0 ∧ cap = 0 ∧ zs = []) ∨
  ∃ x, a = some x ∧ len ≤ cap ∧ cap ≤ maxLen ∧ zs.length = cap ∧ (∀ i, i < zs.length → w.cell? (x.add i) = some (.int k (zs.getD i 0))) ∧ ∀ n ∈ zs, (Lit.int k n).wf = true

theorem IsRow.nums {w : World} {a : Option Addr} {len cap : Nat} {zs : List Int} (h : IsRow .u64 w a len cap zs) : ∃ xs : List Int, xs.length = len ∧ Nums w a xs := by
  rcases h with ⟨rfl, rfl, rfl, rfl⟩ | ⟨x, rfl, hl, hm, hz, hc, hw⟩
  · exact ⟨[], rfl, .inl rfl, by simp, by simp⟩
  · refine ⟨zs.take len, by simp; omega, ?_, fun n hn => word_wf (hw n (List.mem_of_mem_take hn)), ?_⟩
    · by_cases h0 : len = 0
      · subst h0; exact .inl (by simp)
      · obtain ⟨b, off, rfl, hc'⟩ := ints_at hc (by omega)
        right
        refine ⟨b, off, rfl, ?_, ?_⟩
        · exact World.block_lt_of_cell? _ (a := ⟨b, off + 0, none⟩) (hc' 0 (by omega))
        · intro i hi
          have hi' : i < zs.length ∧ i < len := by simp at hi; omega
          rw [hc' i hi'.1]
          simp [List.getD, hi'.2]
    · unfold maxLen at hm
      simp
      omega
end Go.Proofs.Ytnnimjaigciedaa.Mon
namespace Go.Proofs.Ytnnimjaigciedaa.Mon
open Go.RowKit
set_option linter.unusedVariables false

/-- A slice of fees (two numbers each), read as a list. -/
def FeeRow (w : World) (a : Option Addr) (fs : List (Int × Int)) : Prop :=
  (fs = [] ∨ ∃ b off, a = some ⟨b, off, none⟩ ∧ b < w.heap.size ∧ ∀ i, i < fs.length → w.cell? ⟨b, off + i * 2, none⟩ = some (.int .u64 (fs.getD i (0, 0)).1) ∧ w.cell? ⟨b, off + i * 2 + 1, none⟩ = some (.int .u64 (fs.getD i (0, 0)).2))
    ∧ (∀ f ∈ fs, Word f.1 ∧ Word f.2)

theorem FeeRow.below {w w' : World} {a : Option Addr} {fs : List (Int × Int)} (h : FeeRow w a fs) (hB : Below w.heap.size w w') : FeeRow w' a fs := by
  obtain ⟨h1, h2⟩ := h
  refine ⟨?_, h2⟩
  rcases h1 with h1 | ⟨b, off, h4, h5, h6⟩
  · exact .inl h1
  · exact .inr ⟨b, off, h4, Nat.lt_of_lt_of_le h5 hB.size, fun i hi => by
      rw [hB.cell (p := ⟨b, off + i * 2, none⟩) h5, hB.cell (p := ⟨b, off + i * 2 + 1, none⟩) h5]
      exact h6 i hi⟩

theorem FeeRow.word {w : World} {a : Option Addr} {fs : List (Int × Int)} (h : FeeRow w a fs) (k : Nat) : Word (fs.getD k (0, 0)).1 ∧ Word (fs.getD k (0, 0)).2 := by
  by_cases hk : k < fs.length
  · have e : fs.getD k (0, 0) = fs[k] := by simp [List.getD, hk]
    rw [e]
    exact h.2 _ (List.getElem_mem hk)
  · have e : fs.getD k (0, 0) = (0, 0) := by simp [List.getD, Nat.le_of_not_lt hk]
    rw [e]
    unfold Word
    omega

/-- The cells of fees. -/
def flat (fs : List (Int × Int)) : List Value := fs.flatMap fun f => [.int .u64 f.1, .int .u64 f.2]

theorem flat_snoc (fs : List (Int × Int)) (k : Nat) (x : Int × Int) (hk : k < fs.length) (hx : fs.getD k (0, 0) = x) : flat (fs.take k) ++ [.int .u64 x.1, .int .u64 x.2] = flat (fs.take (k + 1)) := by
  have e : fs[k] = x := by rw [← hx]; simp [List.getD, hk]
  rw [List.take_succ_eq_append_getElem hk, e]
  simp [flat]

theorem fee_info : (Try.prog.info? 42).map (fun i => (i.zero, i.size, i.bytes)) = some (some (.agg #[.int .u64 0, .int .u64 0]), 2, 16) := by kernel_rfl

end Go.Proofs.Ytnnimjaigciedaa.Mon
