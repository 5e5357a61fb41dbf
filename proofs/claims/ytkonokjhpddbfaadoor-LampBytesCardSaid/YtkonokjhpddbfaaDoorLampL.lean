/-
  Signatures compared: the same is the same.
-/
import Derived.Test.YtkonokjhpddbfaaDoorLampG
namespace Go.Proofs.YtkonokjhpddbfaaDoor
open Go.RowKit
set_option linter.unusedVariables false

theorem part_piece (S : List Nat) (o : Nat) (ho : o + 16 ≤ S.length) (w : World) : (Go.part 48 (w8 S).toArray o).run Tryd.prog w = .ok (.agg (w8 ((S.drop o).take 16)).toArray) w := by
  have hi := info48
  cases hq : Tryd.prog.info? 48 with
  | none => simp [hq] at hi
  | some i =>
    have hs : i.size = 16 := by simpa [hq] using hi
    simp [Go.part, isAgg, run_underlying Tryd.underlying48, sizeOf, typeInfo, hq, hs]
    rw [w8_drop, w8_take]
theorem piece_same (a : List Nat) (ha : a.length = 16) (d : Nat) (w : World) : (Op.equalIn (d + 2) 48 (.agg (w8 a).toArray) (.agg (w8 a).toArray)).run Tryd.prog w = .ok true w := by
  obtain ⟨i0, hi, hz0, hz1, hz2⟩ := info_parts (show (Tryd.prog.info? 5).map (fun i => (i.zero, i.size, i.bytes)) = some (some (.int .u8 0), 1, 1) by kernel_rfl)
  have h := run_equalIn_array (P := Tryd.prog) w (d + 1) (w8 a).toArray (w8 a).toArray Tryd.underlying48 hi
  rw [h, show Tryd.prog.cellsOf 5 = 1 by kernel_rfl]
  have h2 := eq_items a a 16 ha ha d w 16 (List.range 16) (by simp) (Nat.le_refl _)
  rw [h2]
  simp
theorem eq_step (D e c : Nat) (xs : Array Value) (i : Nat) (is : List Nat) (a : Value) (w : World) (h1 : (Go.part e xs (i * c)).run Tryd.prog w = .ok a w) (h2 : (Op.equalIn D e a a).run Tryd.prog w = .ok true w) :
    (Op.eqItems D e c xs xs (i :: is)).run Tryd.prog w = (Op.eqItems D e c xs xs is).run Tryd.prog w := by
  simp only [Op.eqItems, Sem.run_bind, h1, h2, Result.andThen_ok]
  rfl
theorem items_same (S : List Nat) (d : Nat) (w : World) : ∀ (is : List Nat), (∀ i ∈ is, i * 16 + 16 ≤ S.length) → (Op.eqItems (d + 2) 48 16 (w8 S).toArray (w8 S).toArray is).run Tryd.prog w = .ok true w := by
  intro is
  induction is with
  | nil => intro _; rfl
  | cons i is ih =>
    intro h
    rw [eq_step (d + 2) 48 16 (w8 S).toArray i is _ w (part_piece S (i * 16) (h i (by simp)) w) (piece_same _ (by simp; have := h i (by simp); omega) d w)]
    exact ih (fun j hj => h j (by simp [hj]))
theorem info49 : (Tryd.prog.info? 49).map (fun i => i.size) = some 512 := by kernel_rfl
theorem row_same (S : List Nat) (hS : S.length = 512) (d : Nat) (w : World) : (Op.equalIn (d + 3) 49 (.agg (w8 S).toArray) (.agg (w8 S).toArray)).run Tryd.prog w = .ok true w := by
  have hi := info48
  cases hq : Tryd.prog.info? 48 with
  | none => simp [hq] at hi
  | some i =>
    have h := run_equalIn_array (P := Tryd.prog) w (d + 2) (w8 S).toArray (w8 S).toArray Tryd.underlying49 hq
    rw [h, show Tryd.prog.cellsOf 48 = 16 by kernel_rfl]
    exact items_same S d w (List.range 32) (fun i hi => by have := List.mem_range.1 hi; omega)
theorem part_row (S : List Nat) (o : Nat) (ho : o + 512 ≤ S.length) (w : World) : (Go.part 49 (w8 S).toArray o).run Tryd.prog w = .ok (.agg (w8 ((S.drop o).take 512)).toArray) w := by
  have hi := info49
  cases hq : Tryd.prog.info? 49 with
  | none => simp [hq] at hi
  | some i =>
    have hs : i.size = 512 := by simpa [hq] using hi
    simp [Go.part, isAgg, run_underlying Tryd.underlying49, sizeOf, typeInfo, hq, hs]
    rw [w8_drop, w8_take]
theorem field_step (D : Nat) (xs : Array Value) (f : Field) (fs : List Field) (a : Value) (w : World) (hn : f.name ≠ "_") (h1 : (Go.part f.type xs f.offset).run Tryd.prog w = .ok a w) (h2 : (Op.equalIn D f.type a a).run Tryd.prog w = .ok true w) :
    (Op.eqFields D xs xs (f :: fs)).run Tryd.prog w = (Op.eqFields D xs xs fs).run Tryd.prog w := by
  rw [show Op.eqFields D xs xs (f :: fs) = if f.name ≠ "_" then do
      let a ← Go.part f.type xs f.offset
      let b ← Go.part f.type xs f.offset
      let r ← Op.equalIn D f.type a b
      if (!r) = true then pure false else Op.eqFields D xs xs fs
    else Op.eqFields D xs xs fs from rfl, if_pos hn]
  simp only [Sem.run_bind, h1, h2, Result.andThen_ok]
  rfl
theorem sig_same (S : List Nat) (hS : S.length = 1024) (w : World) : (Op.equalIn 10000 51 (.agg (w8 S).toArray) (.agg (w8 S).toArray)).run Tryd.prog w = .ok true w := by
  have h := run_equalIn_struct (P := Tryd.prog) w 9999 51 (w8 S).toArray (w8 S).toArray (by kernel_rfl) (by kernel_rfl)
  rw [h]
  have hf : (Tryd.prog.fieldsOf 51).toList.map (fun f => (f.name, f.type, f.offset)) = [("Open", 49, 0), ("Other", 49, 512)] := by kernel_rfl
  generalize (Tryd.prog.fieldsOf 51).toList = fs at hf ⊢
  rcases fs with _ | ⟨f1, _ | ⟨f2, _ | ⟨f3, fs⟩⟩⟩
  · simp at hf
  · simp at hf
  · simp only [List.map_cons, List.map_nil, List.cons.injEq, Prod.mk.injEq, and_true] at hf
    obtain ⟨⟨n1, t1, o1⟩, n2, t2, o2⟩ := hf
    have q1 := row_same ((S.drop 0).take 512) (by simp; omega) 9996 w
    have q2 := row_same ((S.drop 512).take 512) (by simp; omega) 9996 w
    rw [field_step 9999 _ f1 _ _ w (by rw [n1]; decide) (by rw [t1, o1]; exact part_row S 0 (by omega) w) (by rw [t1]; exact q1),
      field_step 9999 _ f2 _ _ w (by rw [n2]; decide) (by rw [t2, o2]; exact part_row S 512 (by omega) w) (by rw [t2]; exact q2)]
    rfl
  · simp at hf
theorem eql_sig (S : List Nat) (hS : S.length = 1024) (w : World) : (binOp .eql 51 (.agg (w8 S).toArray) (.agg (w8 S).toArray)).run Tryd.prog w = .ok (.bool true) w := by
  rw [run_eql_struct, sig_same S hS]
  rfl
theorem neq_sig (S : List Nat) (hS : S.length = 1024) (w : World) : (binOp .neq 51 (.agg (w8 S).toArray) (.agg (w8 S).toArray)).run Tryd.prog w = .ok (.bool false) w := by
  rw [run_neq_struct, sig_same S hS]
  rfl
end Go.Proofs.YtkonokjhpddbfaaDoor
