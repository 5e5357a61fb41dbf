/-
  A slab in memory: its block, its bytes; check, step, within.
-/
import Derived.Test.YtjkpdfdcjhnjdaaByt
namespace Go.Proofs.Ytjkpdfdcjhnjdaa
open Go.RowKit
set_option linter.unusedVariables false

/-- A slab's state: its bytes, how many last, its steps, its fuse, is the power gone. -/
structure SS where
  l : List Int
  k : Nat
  st : Int
  fu : Int
  dn : Bool

/-- A slab in memory. -/
structure AtS (w : World) (base b : Nat) (v : Value) (s : SS) : Prop where
  top : Blk w b 46 [v, .int .i64 s.k, .int .i64 s.st, .int .i64 s.fu, .bool s.dn]
  row : Own w base v s.l
  kl : s.k ≤ s.l.length
  small : s.l.length ≤ 262144
  f1 : -1 ≤ s.fu
  f2 : s.fu ≤ 9223372036854775807
theorem AtS.keep {w w' : World} {base b : Nat} {v : Value} {s : SS} (h : AtS w base b v s) (hB : Below w.heap.size w w') : AtS w' base b v s := ⟨h.top.below hB h.top.lt, h.row.below hB (Nat.le_refl _), h.kl, h.small, h.f1, h.f2⟩
/-- The blocks of a slab. -/
def Of (b : Nat) (v : Value) (i : Nat) : Prop := i = b ∨ v.ownBlock = some i
theorem AtS.onlyS {S : Nat → Prop} {w w' : World} {base b : Nat} {v : Value} {s : SS} (h : AtS w base b v s) (ho : OnlyS S w w') (h1 : ∀ i, Of b v i → ¬ S i) : AtS w' base b v s :=
  ⟨h.top.onlyS ho (h1 b (.inl rfl)), h.row.onlyS ho (fun g hg => h1 g (.inr hg)), h.kl, h.small, h.f1, h.f2⟩
theorem AtS.lt {w : World} {base b : Nat} {v : Value} {s : SS} (h : AtS w base b v s) : ∀ i, Of b v i → i < w.heap.size := by
  rintro i (rfl | hi)
  · exact h.top.lt
  · exact (h.row.lt i hi).2
theorem AtS.slice {w : World} {base b : Nat} {v : Value} {s : SS} (h : AtS w base b v s) : ∃ A c, v = .slice A s.l.length c ∧ Src w A c s.l := h.row.src

def chkE (dn : Bool) : Int := if dn then 5 else 0
theorem check_nil (w : World) : Calls Try.prog 27 #[.pointer none] w fun e w' => e = .returned (.int .i64 2) ∧ w = w' := by
  go_enter Try.func27, Try.ntmps27
  go_wp2
  go_ret
  exact ⟨rfl, rfl⟩
theorem check_any (base b : Nat) (v : Value) (s : SS) (w : World) (h : AtS w base b v s) : Calls Try.prog 27 #[.pointer (some ⟨b, 0, none⟩)] w fun e w' => e = .returned (.int .i64 (chkE s.dn)) ∧ w = w' := by
  have hc := h.top.cell 4
  simp only [List.getElem?_cons_succ, List.getElem?_cons_zero] at hc
  obtain ⟨d, hd⟩ : ∃ d, s.dn = d := ⟨_, rfl⟩
  rw [hd] at hc ⊢
  clear h hd
  cases d
  all_goals
    go_enter Try.func27, Try.ntmps27
    go_wp2
    go_ret
    exact ⟨rfl, rfl⟩

/-- The number nearest to n from 0 up to m. -/
def nearN (n : Int) (m : Nat) : Nat := if n < 0 then 0 else if (m : Int) < n then m else n.toNat
theorem nearN_le (n : Int) (m : Nat) : nearN n m ≤ m := by unfold nearN; split; omega; split <;> omega
set_option maxHeartbeats 1000000 in
theorem within_any (n : Int) (m : Nat) (w : World) : Calls Try.prog 28 #[.int .i64 n, .int .i64 (m : Int)] w fun e w' => e = .returned (.int .i64 (nearN n m : Int)) ∧ w = w' := by
  by_cases h1 : n < 0
  · have HE := Lib.hid (show nearN n m = 0 from if_pos h1)
    have h2 : (m : Int) < 0 ↔ False := ⟨fun h => by omega, False.elim⟩
    go_enter Try.func28, Try.ntmps28
    go_wp2
    go_ret
    exact ⟨by rw [HE.out]; rfl, rfl⟩
  · by_cases h2 : (m : Int) < n
    · have HE := Lib.hid (show nearN n m = m by unfold nearN; rw [if_neg h1, if_pos h2])
      go_enter Try.func28, Try.ntmps28
      go_wp2
      go_ret
      exact ⟨by rw [HE.out]; rfl, rfl⟩
    · have HE := Lib.hid (show (nearN n m : Int) = n by unfold nearN; rw [if_neg h1, if_neg h2]; omega)
      go_enter Try.func28, Try.ntmps28
      go_wp2
      go_ret
      exact ⟨by rw [HE.out]; rfl, rfl⟩
end Go.Proofs.Ytjkpdfdcjhnjdaa
