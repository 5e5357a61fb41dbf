/-
  tollhouselaw02.Fees (function 47): fees of the document as the program's: for every list of at most 200 the answer reads as the same numbers; memory that was there stays as it was.
-/
import Derived.Test.YtneacogenjlhgaaRow
namespace Go.Proofs.Ytneacogenjlhgaa
open Go.RowKit
set_option linter.unusedVariables false

/-- A slice of fees (two numbers each), read as a list. -/
def FeeRow (w : World) (a : Option Addr) (fs : List (Int × Int)) : Prop :=
  (fs = [] ∨ ∃ b off, a = some ⟨b, off, none⟩ ∧ b < w.heap.size ∧ ∀ i, i < fs.length → w.cell? ⟨b, off + i * 2, none⟩ = some (.int .u64 (fs.getD i (0, 0)).1) ∧ w.cell? ⟨b, off + i * 2 + 1, none⟩ = some (.int .u64 (fs.getD i (0, 0)).2))
    ∧ (∀ f ∈ fs, Word f.1 ∧ Word f.2)

theorem FeeRow.below {w w' : World} {a : Option Addr} {fs : List (Int × Int)} (h : FeeRow w a fs) (hB : Below w.heap.size w w') : FeeRow w' a fs := by
  obtain ⟨h1, h2⟩ := h
  refine ⟨?_, h2⟩
  rcases h1 with h1 | ⟨b, off, h4, h5, h6⟩
  · exact .inl h1
  · exact .inr ⟨b, off, h4, Nat.lt_of_lt_of_le h5 hB.size, fun i hi => by
      rw [hB.cell (p := ⟨b, off + i * 2, none⟩) h5, hB.cell (p := ⟨b, off + i * 2 + 1, none⟩) h5]
      exact h6 i hi⟩

theorem FeeRow.word {w : World} {a : Option Addr} {fs : List (Int × Int)} (h : FeeRow w a fs) (k : Nat) : Word (fs.getD k (0, 0)).1 ∧ Word (fs.getD k (0, 0)).2 := by
  by_cases hk : k < fs.length
  · have e : fs.getD k (0, 0) = fs[k] := by simp [List.getD, hk]
    rw [e]
    exact h.2 _ (List.getElem_mem hk)
  · have e : fs.getD k (0, 0) = (0, 0) := by simp [List.getD, Nat.le_of_not_lt hk]
    rw [e]
    unfold Word
    omega

/-- The cells of fees. -/
def flat (fs : List (Int × Int)) : List Value := fs.flatMap fun f => [.int .u64 f.1, .int .u64 f.2]

theorem flat_snoc (fs : List (Int × Int)) (k : Nat) (x : Int × Int) (hk : k < fs.length) (hx : fs.getD k (0, 0) = x) : flat (fs.take k) ++ [.int .u64 x.1, .int .u64 x.2] = flat (fs.take (k + 1)) := by
  have e : fs[k] = x := by rw [← hx]; simp [List.getD, hk]
  rw [List.take_succ_eq_append_getElem hk, e]
  simp [flat]

theorem fee_info : (Try.prog.info? 78).map (fun i => (i.zero, i.size, i.bytes)) = some (some (.agg #[.int .u64 0, .int .u64 0]), 2, 16) := by kernel_rfl

set_option maxRecDepth 100000 in
set_option maxHeartbeats 1000000 in
theorem fees_any (a : Option Addr) (cap : Nat) (fs : List (Int × Int)) (w : World) (hN : FeeRow w a fs) (hlen : fs.length ≤ 200) :
    Calls Try.prog 47 #[.slice a fs.length cap] w fun e w' => ∃ v, e = .returned v ∧ w'.ownsRow w.heap.size 78 2 v fs.length (flat fs) ∧ Below w.heap.size w w' := by
  have HN := Lib.hid hN
  obtain ⟨h1, h2⟩ := hN
  clear h2
  rcases h1 with rfl | ⟨b, off, rfl, hb, hc⟩
  · go_enter Try.func47, Try.ntmps47
    go_wp2
    refine wp_loop_rounds 1 ?_
    rw [rounds_succ]
    go_wp2
    go_ret
    exact ⟨_, rfl, ⟨rfl, .inl ⟨rfl, rfl⟩⟩, Below.refl _ _⟩
  · have HC := Lib.hid hc
    clear hc
    obtain ⟨len, hl⟩ : ∃ n, fs.length = n := ⟨_, rfl⟩
    rw [hl] at hlen ⊢
    have HL := Lib.hid hl
    clear hl
    go_enter Try.func47, Try.ntmps47
    go_wp2
    go_loopw [3, 8] (fun t i wr => ∃ (k : Nat), k ≤ len ∧ i = .int .i64 k ∧ wr.ownsRow w.heap.size 78 2 t k (flat (fs.take k)) ∧ Below w.heap.size w wr) (fun _ i _ => len - (intOf i).toNat)
    case atStart => exact ⟨0, Nat.zero_le _, rfl, ⟨rfl, .inl ⟨rfl, rfl⟩⟩, Below.refl _ _⟩
    case round =>
      obtain ⟨k, hk, rfl, hown, hB⟩ := hrel
      by_cases hlt : k < len
      · obtain ⟨x, hx⟩ : ∃ x, fs.getD k (0, 0) = x := ⟨_, rfl⟩
        obtain ⟨hc1, hc2⟩ := HC.out k (by rw [HL.out]; exact hlt)
        rw [hx] at hc1 hc2
        have HX := Lib.hid hx
        rw [← hB.cell (p := ⟨b, off + k * 2, none⟩) hb] at hc1
        rw [← hB.cell (p := ⟨b, off + k * 2 + 1, none⟩) hb] at hc2
        clear hx
        have HO := Lib.hid hown
        have HB := Lib.hid hB
        clear hown
        have hb2 : b < wr.heap.size := Nat.lt_of_lt_of_le hb hB.size
        clear hB
        obtain ⟨x1, x2⟩ := x
        simp only at hc1 hc2
        obtain ⟨i0, hi, hz0, hz1, hz2⟩ := info_parts fee_info
        go_wp2_with (at_builtin; refine wpList_append_own _ rfl (.tmp 12) (.tmp 18) 70 rfl w.heap.size 78 i0 (.agg #[.int .u64 0, .int .u64 0]) 2 16 Try.underlying70 hi hz0 hz1 hz2 rfl (by decide) _ k (flat (fs.take k)) rfl ((HO.out.alloc _).alloc _) ⟨wr.heap.size + 1, 0, none⟩ 1 1 [.int .u64 x1, .int .u64 x2] rfl rfl ?c1 ?c2 ?c3 ?c4 ?c5 ?_)
        case c1 =>
          intro j u hj
          match j, hj with
          | 0, hj => simp at hj; subst hj; simp [Addr.add]
          | 1, hj => simp at hj; subst hj; simp [Addr.add]
        case c2 => intro u hu; simp at hu; rcases hu with rfl | rfl <;> rfl
        case c3 => unfold maxLen; omega
        case c4 => omega
        case c5 => have := HB.out.size; simp; omega
        intro v' w1 hown' hgrow _
        have hs := HB.out.size
        have HB1 := Lib.hid (((HB.out.alloc hs _).alloc (by simp; omega) _).grown hgrow (by simp; omega) (fun g hg => (HO.out.lt g hg).1))
        have e2 : flat (fs.take k) ++ [.int .u64 x1, .int .u64 x2] = flat (fs.take (k + 1)) := flat_snoc fs k (x1, x2) (by rw [HL.out]; exact hlt) HX.out
        rw [e2] at hown'
        have HO1 := Lib.hid hown'
        clear hown' hgrow hs e2
        go_wp2
        go_roundw
        case rel => exact ⟨k + 1, by omega, by go_num, HO1.out, HB1.out⟩
        case measure => simp [intOf]; omega
      · obtain rfl : k = len := by omega
        go_wp2
        go_ret
        refine ⟨_, rfl, ?_, hB⟩
        rw [List.take_of_length_le (by rw [HL.out]; exact Nat.le_refl _)] at hown
        exact hown
end Go.Proofs.Ytneacogenjlhgaa
