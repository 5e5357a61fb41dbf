/-
  parseLine: a line that names no order; one whose form is wrong.
-/
import Derived.Test.YtkilajobnlagbaaDoorCodL
namespace Go.Proofs.YtkilajobnlagbaaDoor
open Go.RowKit
set_option linter.unusedVariables false

theorem opF_some (s : ByteArray) : ∀ (f k : Nat), (opF s f k).2 = true → ∃ op : Nat, (opF s f k).1 = (op : Int) ∧ k ≤ op ∧ op < k + f ∧ nm op = s
  | 0, k, h => by simp [opF] at h
  | f + 1, k, h => by
    rw [opF] at h ⊢
    by_cases e : nm k = s
    · rw [if_pos e]
      exact ⟨k, rfl, Nat.le_refl _, by omega, e⟩
    · rw [if_neg e] at h ⊢
      obtain ⟨op, h1, h2, h3, h4⟩ := opF_some s f (k + 1) h
      exact ⟨op, h1, by omega, by omega, h4⟩
/-- A line's parts. -/
def lnName (s : ByteArray) : ByteArray := ⟨(Lib.cut s.data.toList [32]).1.toArray⟩
def lnNum (s : ByteArray) : ByteArray := ⟨(Lib.cut s.data.toList [32]).2.1.toArray⟩
def lnHas (s : ByteArray) : Bool := (Lib.cut s.data.toList [32]).2.2
/-- Where the library's greatest length lies. -/
def MCell (w : World) : Prop := ∃ m : Int, w.cell? ⟨2, 0, none⟩ = some (.int .i64 m)
theorem cutS_any (s : ByteArray) (w : World) (hs : s.size < 4294967281) (HM : Hid (MCell w)) :
    Calls Tryd.prog 54 #[.string s, .string ⟨#[32]⟩] w fun e w' => e = .returned (.tuple #[.string (lnName s), .string (lnNum s), .bool (lnHas s)]) ∧ Below w.heap.size w w' := by
  obtain ⟨m, hm⟩ := HM.out
  refine (Tryd.strings_Cut s ⟨#[32]⟩ m w hs hm).mono ?_
  rintro e w' ⟨rfl, n, rfl⟩
  exact ⟨rfl, ⟨rfl, rfl, rfl, Nat.le_refl _, fun _ _ => rfl⟩⟩

set_option maxRecDepth 100000 in
set_option maxHeartbeats 2000000 in
theorem parseLine_noname (s : ByteArray) (w : World) (hs : s.size < 4294967281) (HM : Hid (MCell w)) (HT : Hid (KTab w)) (h : (opF (lnName s) 18 0).2 = false) :
    Calls Tryd.prog 35 #[.string s] w fun e w' => e = .returned (.tuple #[.slice none 0 0, .int .i64 40]) ∧ Below w.heap.size w w' := by
  have HC := Lib.hid (cutS_any s w hs HM)
  obtain ⟨N, hN⟩ : ∃ x, lnName s = x := ⟨_, rfl⟩
  rw [hN] at HC h
  obtain ⟨D, hD⟩ : ∃ x, lnNum s = x := ⟨_, rfl⟩
  obtain ⟨B, hB⟩ : ∃ x, lnHas s = x := ⟨_, rfl⟩
  rw [hD, hB] at HC
  clear hN hD hB
  go_enter Tryd.func35, Tryd.ntmps35
  go_wp2_with fail
  refine HC.out.mono ?_
  rintro e w1 ⟨rfl, hB1⟩
  have HB1 := Lib.hid hB1
  have HT1 := Lib.hid (HT.out.below hB1 HT.out.lt)
  clear hB1 HC
  go_wp2_with fail
  refine (opOf_any N w1 HT1).mono ?_
  rintro e w2 ⟨rfl, hB2⟩
  have HB2 := Lib.hid (HB1.out.trans (hB2.mono HB1.out.size))
  clear hB2 HB1
  rw [h]
  go_wp2
  go_ret2
  exact ⟨rfl, HB2.out⟩

set_option maxRecDepth 100000 in
set_option maxHeartbeats 2000000 in
theorem parseLine_form (s : ByteArray) (op : Nat) (w : World) (hs : s.size < 4294967281) (HM : Hid (MCell w)) (HT : Hid (KTab w)) (h : (opF (lnName s) 18 0).2 = true) (ho : (opF (lnName s) 18 0).1 = (op : Int)) (hop : op < 18) (hf : lnHas s ≠ decide (0 < fol op)) :
    Calls Tryd.prog 35 #[.string s] w fun e w' => e = .returned (.tuple #[.slice none 0 0, .int .i64 10]) ∧ Below w.heap.size w w' := by
  have HC := Lib.hid (cutS_any s w hs HM)
  have hk := fun (W : World) (h : KTab W) => h op hop
  obtain ⟨N, hN⟩ : ∃ x, lnName s = x := ⟨_, rfl⟩
  rw [hN] at HC h ho
  obtain ⟨D, hD⟩ : ∃ x, lnNum s = x := ⟨_, rfl⟩
  obtain ⟨B, hB⟩ : ∃ x, lnHas s = x := ⟨_, rfl⟩
  rw [hD, hB] at HC
  rw [hB] at hf
  clear hN hD hB
  go_enter Tryd.func35, Tryd.ntmps35
  go_wp2_with fail
  refine HC.out.mono ?_
  rintro e w1 ⟨rfl, hB1⟩
  have HB1 := Lib.hid hB1
  have HT1 := Lib.hid (HT.out.below hB1 HT.out.lt)
  clear hB1 HC
  go_wp2_with fail
  refine (opOf_any N w1 HT1).mono ?_
  rintro e w2 ⟨rfl, hB2⟩
  have HB2 := Lib.hid (HB1.out.trans (hB2.mono HB1.out.size))
  have hT2 := HT1.out.below hB2 HT1.out.lt
  have c0 : w2.cell? ⟨0, op * 4, none⟩ = some (.string (nm op)) := hk w2 hT2 0 _ rfl
  have c1 : w2.cell? ⟨0, op * 4 + 1, none⟩ = some (.int .i64 (fol op : Int)) := hk w2 hT2 1 _ rfl
  have c2 : w2.cell? ⟨0, op * 4 + 2, none⟩ = some (.int .i64 (cst op : Int)) := hk w2 hT2 2 _ rfl
  have c3 : w2.cell? ⟨0, op * 4 + 3, none⟩ = some (.int .i64 (tks op : Int)) := hk w2 hT2 3 _ rfl
  clear hB2 HB1 hT2 hk
  rw [h, ho]
  obtain ⟨F, hF⟩ : ∃ x, fol op = x := ⟨_, rfl⟩
  obtain ⟨C, hC⟩ : ∃ x, cst op = x := ⟨_, rfl⟩
  obtain ⟨T, hT⟩ : ∃ x, tks op = x := ⟨_, rfl⟩
  obtain ⟨M, hM⟩ : ∃ x, nm op = x := ⟨_, rfl⟩
  rw [hM] at c0
  rw [hF] at c1 hf
  rw [hC] at c2
  rw [hT] at c3
  clear hF hC hT hM h ho
  have o0 : (0 : Int) ≤ (op : Int) := Int.natCast_nonneg _
  have o1 : (op : Int) < 18 := by omega
  have hF0 : B = true ∧ F = 0 ∨ B = false ∧ 0 < F := by
    cases B
    · exact .inr ⟨rfl, by simp at hf; omega⟩
    · exact .inl ⟨rfl, by simp at hf; omega⟩
  clear hf hop hs
  rcases hF0 with ⟨rfl, rfl⟩ | ⟨rfl, hp⟩
  · rw [show ((0 : Nat) : Int) = 0 from rfl] at c1
    go_wp2
    go_ret2
    exact ⟨rfl, HB2.out.alloc HB2.out.size _⟩
  · have hp2 : (0 : Int) < (F : Int) := by omega
    clear hp
    go_wp2
    go_ret2
    exact ⟨rfl, HB2.out.alloc HB2.out.size _⟩
end Go.Proofs.YtkilajobnlagbaaDoor
