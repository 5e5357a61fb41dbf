/-
  tollhouseref03.Make (function 11): the standard's tables as texts; tollhouselaw03.MillSums (function 3): the sum of any bytes is the document's.
-/
import Derived.Test.YtcpjfdaacnkcnaaDoorRefOf
namespace Go.Proofs.YtcpjfdaacnkcnaaDoor
open Go.RowKit
set_option linter.unusedVariables false

/-- The standard's first words, as letters. -/
def firstText : ByteArray := ⟨#[54, 97, 48, 57, 101, 54, 54, 55, 98, 98, 54, 55, 97, 101, 56, 53, 51, 99, 54, 101, 102, 51, 55, 50, 97, 53, 52, 102, 102, 53, 51, 97, 53, 49, 48, 101, 53, 50, 55, 102, 57, 98, 48, 53, 54, 56, 56, 99, 49, 102, 56, 51, 100, 57, 97, 98, 53, 98, 101, 48, 99, 100, 49, 57]⟩
/-- What each round adds, as letters. -/
def roundText : ByteArray := ⟨#[52, 50, 56, 97, 50, 102, 57, 56, 55, 49, 51, 55, 52, 52, 57, 49, 98, 53, 99, 48, 102, 98, 99, 102, 101, 57, 98, 53, 100, 98, 97, 53, 51, 57, 53, 54, 99, 50, 53, 98, 53, 57, 102, 49, 49, 49, 102, 49, 57, 50, 51, 102, 56, 50, 97, 52, 97, 98, 49, 99, 53, 101, 100, 53, 100, 56, 48, 55, 97, 97, 57, 56, 49, 50, 56, 51, 53, 98, 48, 49, 50, 52, 51, 49, 56, 53, 98, 101, 53, 53, 48, 99, 55, 100, 99, 51, 55, 50, 98, 101, 53, 100, 55, 52, 56, 48, 100, 101, 98, 49, 102, 101, 57, 98, 100, 99, 48, 54, 97, 55, 99, 49, 57, 98, 102, 49, 55, 52, 101, 52, 57, 98, 54, 57, 99, 49, 101, 102, 98, 101, 52, 55, 56, 54, 48, 102, 99, 49, 57, 100, 99, 54, 50, 52, 48, 99, 97, 49, 99, 99, 50, 100, 101, 57, 50, 99, 54, 102, 52, 97, 55, 52, 56, 52, 97, 97, 53, 99, 98, 48, 97, 57, 100, 99, 55, 54, 102, 57, 56, 56, 100, 97, 57, 56, 51, 101, 53, 49, 53, 50, 97, 56, 51, 49, 99, 54, 54, 100, 98, 48, 48, 51, 50, 55, 99, 56, 98, 102, 53, 57, 55, 102, 99, 55, 99, 54, 101, 48, 48, 98, 102, 51, 100, 53, 97, 55, 57, 49, 52, 55, 48, 54, 99, 97, 54, 51, 53, 49, 49, 52, 50, 57, 50, 57, 54, 55, 50, 55, 98, 55, 48, 97, 56, 53, 50, 101, 49, 98, 50, 49, 51, 56, 52, 100, 50, 99, 54, 100, 102, 99, 53, 51, 51, 56, 48, 100, 49, 51, 54, 53, 48, 97, 55, 51, 53, 52, 55, 54, 54, 97, 48, 97, 98, 98, 56, 49, 99, 50, 99, 57, 50, 101, 57, 50, 55, 50, 50, 99, 56, 53, 97, 50, 98, 102, 101, 56, 97, 49, 97, 56, 49, 97, 54, 54, 52, 98, 99, 50, 52, 98, 56, 98, 55, 48, 99, 55, 54, 99, 53, 49, 97, 51, 100, 49, 57, 50, 101, 56, 49, 57, 100, 54, 57, 57, 48, 54, 50, 52, 102, 52, 48, 101, 51, 53, 56, 53, 49, 48, 54, 97, 97, 48, 55, 48, 49, 57, 97, 52, 99, 49, 49, 54, 49, 101, 51, 55, 54, 99, 48, 56, 50, 55, 52, 56, 55, 55, 52, 99, 51, 52, 98, 48, 98, 99, 98, 53, 51, 57, 49, 99, 48, 99, 98, 51, 52, 101, 100, 56, 97, 97, 52, 97, 53, 98, 57, 99, 99, 97, 52, 102, 54, 56, 50, 101, 54, 102, 102, 51, 55, 52, 56, 102, 56, 50, 101, 101, 55, 56, 97, 53, 54, 51, 54, 102, 56, 52, 99, 56, 55, 56, 49, 52, 56, 99, 99, 55, 48, 50, 48, 56, 57, 48, 98, 101, 102, 102, 102, 97, 97, 52, 53, 48, 54, 99, 101, 98, 98, 101, 102, 57, 97, 51, 102, 55, 99, 54, 55, 49, 55, 56, 102, 50]⟩
set_option maxRecDepth 100000 in
theorem texts : Texts firstText roundText := ⟨by decide +kernel, by decide +kernel, by decide +kernel, by decide +kernel, by decide +kernel, by decide +kernel⟩

set_option maxRecDepth 100000 in
theorem make_any (w : World) : Calls Tryd.prog 11 #[] w fun e w' => e = .returned (.agg #[.string firstText, .string roundText]) ∧ Below w.heap.size w w' := by
  go_enter Tryd.func11, Tryd.ntmps11
  go_wp2
  exact bodyPost_ret (v := .agg #[.string firstText, .string roundText]) (by simp [results, Tryd.results11, go_sem, firstText, roundText]) rfl ⟨rfl, by first | exact ((Below.refl _ _).alloc (Nat.le_refl _) _) | exact (((Below.refl _ _).alloc (Nat.le_refl _) _).setCell (Nat.le_refl _) _).setCell (Nat.le_refl _) _⟩

/-- Bytes that came in. -/
structure CameB (W : World) (A : Option Addr) (c n : Nat) (l : List Nat) : Prop where
  src : Src W W.heap.size A c l
  len : l.length = n
  cap : c ≤ 9223372036854775807

theorem eql_sum (l : List Nat) (w : World) : (binOp .eql 25 (.agg (w8 (sha l)).toArray) (.agg (w8 (sha l)).toArray)).run Tryd.prog w = .ok (.bool true) w := eql_same (sha l) (sha_length l) w

set_option maxRecDepth 100000 in
set_option maxHeartbeats 1000000 in
theorem millSums_walk (A : Option Addr) (n c : Nat) (l : List Nat) (W : World) (HT : Hid (Tab W)) (HC : Hid (CameB W A c n l)) :
    Calls Tryd.prog 3 #[.slice A n c] W fun e W' => e = .returned (.bool true) ∧ Below W.heap.size W W' := by
  by_cases hn : n ≤ 5000
  · have n1 : (n : Int) ≤ 5000 := by omega
    have n2 : ¬ (5000 : Int) < (n : Int) := by omega
    have HLN := Lib.hid HC.out.len
    go_enter Tryd.func3, Tryd.ntmps3
    go_wp2_with fail
    refine (awake_any _ HT).mono ?_
    rintro e w1 ⟨rfl, hB1⟩
    have HB1 := Lib.hid hB1
    clear hB1
    go_wp2_with fail
    have HPB : Hid (Blk (w1.alloc (.cells #[.slice A n c] 22)) w1.heap.size 22 [.slice A n c]) := Lib.hid (Blk.new w1 22 [.slice A n c])
    have HB2 : Hid (Below W.heap.size W (w1.alloc (.cells #[.slice A n c] 22))) := Lib.hid (HB1.out.alloc HB1.out.size _)
    have hw1 : W.heap.size ≤ w1.heap.size := HB1.out.size
    generalize w1.alloc (.cells #[.slice A n c] 22) = w2 at HPB HB2 ⊢
    have HT2 := Lib.hid (HT.out.below HB2.out HT.out.lt)
    have hc' : c ≤ 9223372036854775807 := HC.out.cap
    have HPP := Lib.hid (Parts.one (b := W.heap.size + w1.heap.size + 1) (x := l) HPB.out HLN.out.symm (by omega) hc' ((HC.out.src.new (b' := W.heap.size + w1.heap.size + 1) (by omega)).below HB2.out))
    refine (of_any 1 1 _ _ [l] w2 HT2 HPP (Lib.hid rfl) (by omega) (Lib.hid (by simp [HLN.out]; omega))).mono ?_
    rintro e w3 ⟨rfl, hB3⟩
    rw [show ([l] : List (List Nat)).flatten = l by simp]
    have HB3 := Lib.hid (HB2.out.trans (hB3.mono HB2.out.size))
    clear hB3 HPP HPB
    go_wp2_with fail
    refine (make_any _).mono ?_
    rintro e w4 ⟨rfl, hB4⟩
    have HB4 := Lib.hid (HB3.out.trans (hB4.mono HB3.out.size))
    clear hB4
    have heq := eql_sum l
    go_wp2_with fail
    refine (refof_any firstText roundText A n c l w4 (Lib.hid texts) (Lib.hid ((HC.out.src.new HB4.out.size).below HB4.out)) HLN (by omega)).mono ?_
    rintro e w5 ⟨rfl, hB5⟩
    have HB5 := Lib.hid (HB4.out.trans (hB5.mono HB4.out.size))
    clear hB5
    go_wp2
    go_ret
    exact ⟨rfl, HB5.out⟩
  · have n1 : (5000 : Int) < (n : Int) := by omega
    go_enter Tryd.func3, Tryd.ntmps3
    go_wp2_with fail
    refine (awake_any _ HT).mono ?_
    rintro e w1 ⟨rfl, hB1⟩
    go_wp2
    go_ret
    exact ⟨rfl, hB1⟩
end Go.Proofs.YtcpjfdaacnkcnaaDoor
