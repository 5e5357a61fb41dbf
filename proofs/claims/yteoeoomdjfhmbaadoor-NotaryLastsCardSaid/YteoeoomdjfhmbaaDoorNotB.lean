/-
  A notary's When, Secret, In, Of: whatever find answers.
-/
import Derived.Test.YteoeoomdjfhmbaaDoorNotA
namespace Go.Proofs.YteoeoomdjfhmbaaDoor
open Go.RowKit
set_option linter.unusedVariables false

/-- What find answers of a hash, from here on. -/
def Finds (w : World) (N : Value) (h S : List Nat) (ht : Int) (TB : Bool) : Prop := ∀ V, Below w.heap.size w V → Calls Tryd.prog 24 #[N, .agg (w8 h).toArray] V fun e w' => e = .returned (.tuple #[.agg (ecells S ht).toArray, .bool TB]) ∧ Below V.heap.size V w'
theorem Finds.below {w w' : World} {N : Value} {h S : List Nat} {ht : Int} {TB : Bool} (H : Finds w N h S ht TB) (hB : Below w.heap.size w w') : Finds w' N h S ht TB := fun V hV => H V (hB.trans (hV.mono hB.size))
theorem Finds.nil (w : World) (h : List Nat) : Finds w (.pointer none) h z32 0 false := fun V _ => find_nil h V
def sOf (T : List (List Nat × List Nat × Int)) (h : List Nat) : List Nat := match lookB T h with | some (s, _) => s | none => z32
def htOf (T : List (List Nat × List Nat × Int)) (h : List Nat) : Int := match lookB T h with | some (_, t) => t | none => 0
theorem ecOf_eq (T : List (List Nat × List Nat × Int)) (h : List Nat) : ecOf T h = ecells (sOf T h) (htOf T h) := by
  unfold ecOf sOf htOf
  cases lookB T h with
  | none => rfl
  | some p => cases p; rfl
theorem sOf_length (T : List (List Nat × List Nat × Int)) (h : List Nat) (hO : Okay T) : (sOf T h).length = 32 := by
  have := ecOf_length T h hO
  rw [ecOf_eq] at this
  simpa [ecells, w8_length] using this
theorem Finds.any {w : World} {g b : Nat} {T : List (List Nat × List Nat × Int)} (h : List Nat) (hN : Blk w g 75 [.map (some b)]) (hM : NMap w b (T.map tv)) (hO : Okay T) (hl : h.length = 32) (hb : ∀ x ∈ h, x < 256) : Finds w (.pointer (some ⟨g, 0, none⟩)) h (sOf T h) (htOf T h) (isIn T h) := fun V hV => by
  have := find_any g b T h V (Lib.hid (hN.below hV hN.lt)) (Lib.hid (hM.below hV)) hO hl hb
  rw [ecOf_eq] at this
  exact this
theorem e32 (S : List Nat) (ht : Int) (hS : S.length = 32) : (ecells S ht)[32]? = some (.int .u64 ht) := by
  unfold ecells
  rw [List.getElem?_append_right (by rw [w8_length, hS]; omega), w8_length, hS]
  rfl

set_option maxRecDepth 100000 in
set_option maxHeartbeats 2000000 in
theorem when_of (N : Value) (h S : List Nat) (ht : Int) (TB : Bool)  (w : World) (hl : h.length = 32) (hS : S.length = 32) (HF : Hid (Finds w N h S ht TB)) :
    Calls Tryd.prog 12 #[N, .agg (w8 h).toArray] w fun e w' => e = .returned (.tuple #[.int .u64 ht, .bool TB]) ∧ Below w.heap.size w w' := by
  have hz53 : (Tryd.prog.info? 53).map (·.size) = some (w8 h).toArray.size := by rw [List.size_toArray, w8_length, hl]; exact info53
  have hel := ecells_length S ht hS
  have h32 := e32 S ht hS
  have heo := ecells_one S ht
  have hz77 : (Tryd.prog.info? 77).map (·.size) = some (ecells S ht).toArray.size := by rw [List.size_toArray, hel]; exact info77
  have hzo : (#[.int .u8 0, .int .u8 0, .int .u8 0, .int .u8 0, .int .u8 0, .int .u8 0, .int .u8 0, .int .u8 0, .int .u8 0, .int .u8 0, .int .u8 0, .int .u8 0, .int .u8 0, .int .u8 0, .int .u8 0, .int .u8 0, .int .u8 0, .int .u8 0, .int .u8 0, .int .u8 0, .int .u8 0, .int .u8 0, .int .u8 0, .int .u8 0, .int .u8 0, .int .u8 0, .int .u8 0, .int .u8 0, .int .u8 0, .int .u8 0, .int .u8 0, .int .u8 0, .int .u64 0] : Array Value).size = (ecells S ht).toArray.size := by rw [show (ecells S ht).toArray.size = 33 by rw [List.size_toArray, hel]]; rfl
  have hz46 : (Tryd.prog.info? 46).map (·.size) = some (w8 S).toArray.size := by rw [List.size_toArray, w8_length, hS]; exact info46
  go_enter Tryd.func12, Tryd.ntmps12
  go_upto_region 1 with fail
  have BV : Hid (Below w.heap.size w (w.alloc (.cells (w8 h).toArray 53))) := Lib.hid ((Below.refl _ _).alloc (Nat.le_refl _) _)
  have HV : Hid (Blk (w.alloc (.cells (w8 h).toArray 53)) w.heap.size 53 (w8 h)) := Lib.hid (Blk.new w 53 (w8 h))
  generalize w.alloc (.cells (w8 h).toArray 53) = V at BV HV ⊢
  go_wp2_with (first | (refine wpList_load_row rfl 53 (.tmp 3) rfl w.heap.size rfl 53 (w8 h).toArray (0, 0) _ HV.out Tryd.underlying53 rfl hz53 ?_))
  refine (HF.out V BV.out).mono ?_
  rintro e V1 ⟨rfl, hB1⟩
  have B1 := Lib.hid (BV.out.trans (hB1.mono BV.out.size))
  have HLA := heap_alloc_last V1 (.cells #[.int .u8 0, .int .u8 0, .int .u8 0, .int .u8 0, .int .u8 0, .int .u8 0, .int .u8 0, .int .u8 0, .int .u8 0, .int .u8 0, .int .u8 0, .int .u8 0, .int .u8 0, .int .u8 0, .int .u8 0, .int .u8 0, .int .u8 0, .int .u8 0, .int .u8 0, .int .u8 0, .int .u8 0, .int .u8 0, .int .u8 0, .int .u8 0, .int .u8 0, .int .u8 0, .int .u8 0, .int .u8 0, .int .u8 0, .int .u8 0, .int .u8 0, .int .u8 0, .int .u64 0] 77)
  clear hB1 HF HV
  go_upto_region 2 with (first | (refine wpList_store_row rfl 77 (.tmp 6) (.tmp 12) rfl V1.heap.size (ecells S ht).toArray rfl rfl 77 _ HLA hz77 hzo heo ?_; rw [World.setRow_alloc_new]))
  have hD := Blk.new V1 77 (ecells S ht)
  have B2 := Lib.hid (B1.out.alloc B1.out.size (.cells (ecells S ht).toArray 77))
  have c32 := hD.cell 32
  rw [h32] at c32
  clear HLA
  generalize V1.alloc (.cells (ecells S ht).toArray 77) = V2 at hD B2 c32 ⊢
  go_wp2
  go_ret2
  exact ⟨rfl, B2.out⟩

set_option maxRecDepth 100000 in
set_option maxHeartbeats 2000000 in
theorem secret_of (N : Value) (h S : List Nat) (ht : Int) (TB : Bool)  (w : World) (hl : h.length = 32) (hS : S.length = 32) (HF : Hid (Finds w N h S ht TB)) :
    Calls Tryd.prog 13 #[N, .agg (w8 h).toArray] w fun e w' => e = .returned (.tuple #[.agg (w8 S).toArray, .bool TB]) ∧ Below w.heap.size w w' := by
  have hz53 : (Tryd.prog.info? 53).map (·.size) = some (w8 h).toArray.size := by rw [List.size_toArray, w8_length, hl]; exact info53
  have hel := ecells_length S ht hS
  have h32 := e32 S ht hS
  have heo := ecells_one S ht
  have hz77 : (Tryd.prog.info? 77).map (·.size) = some (ecells S ht).toArray.size := by rw [List.size_toArray, hel]; exact info77
  have hzo : (#[.int .u8 0, .int .u8 0, .int .u8 0, .int .u8 0, .int .u8 0, .int .u8 0, .int .u8 0, .int .u8 0, .int .u8 0, .int .u8 0, .int .u8 0, .int .u8 0, .int .u8 0, .int .u8 0, .int .u8 0, .int .u8 0, .int .u8 0, .int .u8 0, .int .u8 0, .int .u8 0, .int .u8 0, .int .u8 0, .int .u8 0, .int .u8 0, .int .u8 0, .int .u8 0, .int .u8 0, .int .u8 0, .int .u8 0, .int .u8 0, .int .u8 0, .int .u8 0, .int .u64 0] : Array Value).size = (ecells S ht).toArray.size := by rw [show (ecells S ht).toArray.size = 33 by rw [List.size_toArray, hel]]; rfl
  have hz46 : (Tryd.prog.info? 46).map (·.size) = some (w8 S).toArray.size := by rw [List.size_toArray, w8_length, hS]; exact info46
  have hzp : (#[.int .u8 0, .int .u8 0, .int .u8 0, .int .u8 0, .int .u8 0, .int .u8 0, .int .u8 0, .int .u8 0, .int .u8 0, .int .u8 0, .int .u8 0, .int .u8 0, .int .u8 0, .int .u8 0, .int .u8 0, .int .u8 0, .int .u8 0, .int .u8 0, .int .u8 0, .int .u8 0, .int .u8 0, .int .u8 0, .int .u8 0, .int .u8 0, .int .u8 0, .int .u8 0, .int .u8 0, .int .u8 0, .int .u8 0, .int .u8 0, .int .u8 0, .int .u8 0] : Array Value).size = (w8 S).toArray.size := by rw [show (w8 S).toArray.size = 32 by rw [List.size_toArray, w8_length, hS]]; rfl
  have hso := all_oneCell_toArray (w8_one S)
  go_enter Tryd.func13, Tryd.ntmps13
  go_upto_region 1 with fail
  have BV : Hid (Below w.heap.size w ((w.alloc (.cells (w8 h).toArray 53)).alloc (.cells #[.int .u8 0, .int .u8 0, .int .u8 0, .int .u8 0, .int .u8 0, .int .u8 0, .int .u8 0, .int .u8 0, .int .u8 0, .int .u8 0, .int .u8 0, .int .u8 0, .int .u8 0, .int .u8 0, .int .u8 0, .int .u8 0, .int .u8 0, .int .u8 0, .int .u8 0, .int .u8 0, .int .u8 0, .int .u8 0, .int .u8 0, .int .u8 0, .int .u8 0, .int .u8 0, .int .u8 0, .int .u8 0, .int .u8 0, .int .u8 0, .int .u8 0, .int .u8 0] 46))) := Lib.hid (((Below.refl _ _).alloc (Nat.le_refl _) _).alloc (by simp) _)
  have HV : Hid (Blk ((w.alloc (.cells (w8 h).toArray 53)).alloc (.cells #[.int .u8 0, .int .u8 0, .int .u8 0, .int .u8 0, .int .u8 0, .int .u8 0, .int .u8 0, .int .u8 0, .int .u8 0, .int .u8 0, .int .u8 0, .int .u8 0, .int .u8 0, .int .u8 0, .int .u8 0, .int .u8 0, .int .u8 0, .int .u8 0, .int .u8 0, .int .u8 0, .int .u8 0, .int .u8 0, .int .u8 0, .int .u8 0, .int .u8 0, .int .u8 0, .int .u8 0, .int .u8 0, .int .u8 0, .int .u8 0, .int .u8 0, .int .u8 0] 46)) w.heap.size 53 (w8 h)) := Lib.hid ((Blk.new w 53 (w8 h)).alloc _)
  have RV : Hid (Blk ((w.alloc (.cells (w8 h).toArray 53)).alloc (.cells #[.int .u8 0, .int .u8 0, .int .u8 0, .int .u8 0, .int .u8 0, .int .u8 0, .int .u8 0, .int .u8 0, .int .u8 0, .int .u8 0, .int .u8 0, .int .u8 0, .int .u8 0, .int .u8 0, .int .u8 0, .int .u8 0, .int .u8 0, .int .u8 0, .int .u8 0, .int .u8 0, .int .u8 0, .int .u8 0, .int .u8 0, .int .u8 0, .int .u8 0, .int .u8 0, .int .u8 0, .int .u8 0, .int .u8 0, .int .u8 0, .int .u8 0, .int .u8 0] 46)) (w.heap.size + 1) 46 (w8 z32)) := Lib.hid (Blk.mk_ (cs := w8 z32) (by simp))
  generalize (w.alloc (.cells (w8 h).toArray 53)).alloc (.cells #[.int .u8 0, .int .u8 0, .int .u8 0, .int .u8 0, .int .u8 0, .int .u8 0, .int .u8 0, .int .u8 0, .int .u8 0, .int .u8 0, .int .u8 0, .int .u8 0, .int .u8 0, .int .u8 0, .int .u8 0, .int .u8 0, .int .u8 0, .int .u8 0, .int .u8 0, .int .u8 0, .int .u8 0, .int .u8 0, .int .u8 0, .int .u8 0, .int .u8 0, .int .u8 0, .int .u8 0, .int .u8 0, .int .u8 0, .int .u8 0, .int .u8 0, .int .u8 0] 46) = V at BV HV RV ⊢
  have hrl := RV.out.lt
  go_wp2_with (first | (refine wpList_load_row rfl 53 (.tmp 3) rfl w.heap.size rfl 53 (w8 h).toArray (0, 0) _ HV.out Tryd.underlying53 rfl hz53 ?_))
  refine (HF.out V BV.out).mono ?_
  rintro e V1 ⟨rfl, hB1⟩
  have B1 := Lib.hid (BV.out.trans (hB1.mono BV.out.size))
  have R1 := Lib.hid (RV.out.below hB1 hrl)
  have HLA := heap_alloc_last V1 (.cells #[.int .u8 0, .int .u8 0, .int .u8 0, .int .u8 0, .int .u8 0, .int .u8 0, .int .u8 0, .int .u8 0, .int .u8 0, .int .u8 0, .int .u8 0, .int .u8 0, .int .u8 0, .int .u8 0, .int .u8 0, .int .u8 0, .int .u8 0, .int .u8 0, .int .u8 0, .int .u8 0, .int .u8 0, .int .u8 0, .int .u8 0, .int .u8 0, .int .u8 0, .int .u8 0, .int .u8 0, .int .u8 0, .int .u8 0, .int .u8 0, .int .u8 0, .int .u8 0, .int .u64 0] 77)
  clear hB1 HF HV RV
  go_upto_region 2 with (first | (refine wpList_store_row rfl 77 (.tmp 6) (.tmp 12) rfl V1.heap.size (ecells S ht).toArray rfl rfl 77 _ HLA hz77 hzo heo ?_; rw [World.setRow_alloc_new]))
  have hD := Blk.new V1 77 (ecells S ht)
  have B2 := Lib.hid (B1.out.alloc B1.out.size (.cells (ecells S ht).toArray 77))
  have R2 := Lib.hid (R1.out.alloc (.cells (ecells S ht).toArray 77))
  clear HLA
  generalize V1.heap.size = ge at hD ⊢
  generalize V1.alloc (.cells (ecells S ht).toArray 77) = V2 at hD B2 R2 ⊢
  have hrg : V2.rangeAt ge 0 (w8 S) := by
    have h := hD.range 0 32
    rw [List.drop_zero, ecells, List.take_left' (by rw [w8_length, hS])] at h
    exact h
  have hR9 : V2.heap[w.heap.size + 1]? = some (.cells #[.int .u8 0, .int .u8 0, .int .u8 0, .int .u8 0, .int .u8 0, .int .u8 0, .int .u8 0, .int .u8 0, .int .u8 0, .int .u8 0, .int .u8 0, .int .u8 0, .int .u8 0, .int .u8 0, .int .u8 0, .int .u8 0, .int .u8 0, .int .u8 0, .int .u8 0, .int .u8 0, .int .u8 0, .int .u8 0, .int .u8 0, .int .u8 0, .int .u8 0, .int .u8 0, .int .u8 0, .int .u8 0, .int .u8 0, .int .u8 0, .int .u8 0, .int .u8 0] 46 (0, 0)) := R2.out
  go_wp2_with (first | (refine wpList_load_mid rfl 46 (.tmp 14) rfl ge 0 rfl (w8 S) _ hrg Tryd.underlying46 rfl (by rw [w8_length, hS]; exact info46) ?_) | (refine wpList_store_row rfl 46 (.tmp 4) (.tmp 15) rfl (w.heap.size + 1) (w8 S).toArray rfl rfl 46 _ hR9 hz46 hzp hso ?_))
  exact bodyPost_ret (results_ct Tryd.results13 _ _ (w.heap.size + 1) 46 (w8 S) _ rfl (R2.out.setRow _) Tryd.underlying46 rfl (by rw [w8_length, hS]; exact info46)) rfl ⟨rfl, below_setRow B2.out (by omega) _⟩

set_option maxRecDepth 100000 in
set_option maxHeartbeats 2000000 in
theorem in_of (N : Value) (h S : List Nat) (ht : Int) (TB : Bool) (x : Int) (w : World) (hl : h.length = 32) (hS : S.length = 32) (HF : Hid (Finds w N h S ht TB)) :
    Calls Tryd.prog 18 #[N, .agg (w8 h).toArray, .int .u64 x] w fun e w' => e = .returned (.bool (TB && decide (ht ≤ x))) ∧ Below w.heap.size w w' := by
  have hz53 : (Tryd.prog.info? 53).map (·.size) = some (w8 h).toArray.size := by rw [List.size_toArray, w8_length, hl]; exact info53
  have hel := ecells_length S ht hS
  have h32 := e32 S ht hS
  have heo := ecells_one S ht
  have hz77 : (Tryd.prog.info? 77).map (·.size) = some (ecells S ht).toArray.size := by rw [List.size_toArray, hel]; exact info77
  have hzo : (#[.int .u8 0, .int .u8 0, .int .u8 0, .int .u8 0, .int .u8 0, .int .u8 0, .int .u8 0, .int .u8 0, .int .u8 0, .int .u8 0, .int .u8 0, .int .u8 0, .int .u8 0, .int .u8 0, .int .u8 0, .int .u8 0, .int .u8 0, .int .u8 0, .int .u8 0, .int .u8 0, .int .u8 0, .int .u8 0, .int .u8 0, .int .u8 0, .int .u8 0, .int .u8 0, .int .u8 0, .int .u8 0, .int .u8 0, .int .u8 0, .int .u8 0, .int .u8 0, .int .u64 0] : Array Value).size = (ecells S ht).toArray.size := by rw [show (ecells S ht).toArray.size = 33 by rw [List.size_toArray, hel]]; rfl
  go_enter Tryd.func18, Tryd.ntmps18
  go_upto_region 1 with fail
  have BV : Hid (Below w.heap.size w (w.alloc (.cells (w8 h).toArray 53))) := Lib.hid ((Below.refl _ _).alloc (Nat.le_refl _) _)
  have HV : Hid (Blk (w.alloc (.cells (w8 h).toArray 53)) w.heap.size 53 (w8 h)) := Lib.hid (Blk.new w 53 (w8 h))
  generalize w.alloc (.cells (w8 h).toArray 53) = V at BV HV ⊢
  go_wp2_with (first | (refine wpList_load_row rfl 53 (.tmp 4) rfl w.heap.size rfl 53 (w8 h).toArray (0, 0) _ HV.out Tryd.underlying53 rfl hz53 ?_))
  refine (when_of N h S ht TB V hl hS (Lib.hid (HF.out.below BV.out))).mono ?_
  rintro e V1 ⟨rfl, hB1⟩
  have B1 := Lib.hid (BV.out.trans (hB1.mono BV.out.size))
  clear hB1 HF HV
  cases TB
  · go_wp2
    go_ret
    exact ⟨rfl, B1.out⟩
  · go_wp2
    go_ret
    exact ⟨by simp, B1.out⟩

/-- A payment's cells. -/
def ccells (id side amt : Int) (h : List Nat) (ex : Int) : List Value := [Value.int .u64 id, Value.int .i64 side, Value.int .u64 amt] ++ w8 h ++ [Value.int .u64 ex]
def verd (TB : Bool) (ht ex height : Int) : Int := if (TB && decide (ht ≤ ex)) = true then 1 else if ex < height then 2 else 0

set_option maxRecDepth 100000 in
set_option maxHeartbeats 2000000 in
theorem of_of (N : Value) (h S : List Nat) (ht : Int) (TB : Bool) (id side amt ex height : Int) (w : World) (hl : h.length = 32) (hS : S.length = 32) (HF : Hid (Finds w N h S ht TB)) :
    Calls Tryd.prog 21 #[N, .agg (ccells id side amt h ex).toArray, .int .u64 height] w fun e w' => e = .returned (.int .i64 (verd TB ht ex height)) ∧ Below w.heap.size w w' := by
  have hz53 : (Tryd.prog.info? 53).map (·.size) = some (w8 h).toArray.size := by rw [List.size_toArray, w8_length, hl]; exact info53
  have hel := ecells_length S ht hS
  have h32 := e32 S ht hS
  have heo := ecells_one S ht
  have hz77 : (Tryd.prog.info? 77).map (·.size) = some (ecells S ht).toArray.size := by rw [List.size_toArray, hel]; exact info77
  have hzo : (#[.int .u8 0, .int .u8 0, .int .u8 0, .int .u8 0, .int .u8 0, .int .u8 0, .int .u8 0, .int .u8 0, .int .u8 0, .int .u8 0, .int .u8 0, .int .u8 0, .int .u8 0, .int .u8 0, .int .u8 0, .int .u8 0, .int .u8 0, .int .u8 0, .int .u8 0, .int .u8 0, .int .u8 0, .int .u8 0, .int .u8 0, .int .u8 0, .int .u8 0, .int .u8 0, .int .u8 0, .int .u8 0, .int .u8 0, .int .u8 0, .int .u8 0, .int .u8 0, .int .u64 0] : Array Value).size = (ecells S ht).toArray.size := by rw [show (ecells S ht).toArray.size = 33 by rw [List.size_toArray, hel]]; rfl
  obtain ⟨D, hD⟩ : ∃ D, verd TB ht ex height = D := ⟨_, rfl⟩
  rw [hD]
  unfold verd at hD
  have HD := Lib.hid hD
  clear hD
  have hcl : (ccells id side amt h ex)[35]? = some (.int .u64 ex) := by
    unfold ccells
    rw [List.getElem?_append_right (by simp [w8_length, hl])]
    simp [w8_length, hl]
  go_enter Tryd.func21, Tryd.ntmps21
  go_upto_region 1 with fail
  have BV : Hid (Below w.heap.size w (w.alloc (.cells (ccells id side amt h ex).toArray 59))) := Lib.hid ((Below.refl _ _).alloc (Nat.le_refl _) _)
  have HV : Hid (Blk (w.alloc (.cells (ccells id side amt h ex).toArray 59)) w.heap.size 59 (ccells id side amt h ex)) := Lib.hid (Blk.new w 59 (ccells id side amt h ex))
  generalize w.alloc (.cells (ccells id side amt h ex).toArray 59) = V at BV HV ⊢
  have c35 := HV.out.cell 35
  rw [hcl] at c35
  have hrg : V.rangeAt w.heap.size 3 (w8 h) := by
    have h1 := HV.out.range 3 32
    rw [ccells, List.append_assoc, List.drop_left' (by rfl), List.take_left' (by rw [w8_length, hl])] at h1
    exact h1
  go_wp2_with (first | (refine wpList_load_mid rfl 53 (.tmp 8) rfl w.heap.size 3 rfl (w8 h) _ hrg Tryd.underlying53 rfl (by rw [w8_length, hl]; exact info53) ?_))
  refine (in_of N h S ht TB ex V hl hS (Lib.hid (HF.out.below BV.out))).mono ?_
  rintro e V1 ⟨rfl, hB1⟩
  have B1 := Lib.hid (BV.out.trans (hB1.mono BV.out.size))
  have c1 : V1.cell? ⟨w.heap.size, 35, none⟩ = some (.int .u64 ex) := (hB1.cell (p := ⟨w.heap.size, 35, none⟩) HV.out.lt).trans c35
  clear hB1 HF HV c35 hrg
  have hD := HD.out
  obtain ⟨q, hq⟩ : ∃ q, (TB && decide (ht ≤ ex)) = q := ⟨_, rfl⟩
  rw [hq] at hD ⊢
  clear hq HD
  cases q
  · by_cases hx : ex < height
    · rw [if_neg (by simp), if_pos hx] at hD
      subst hD
      go_wp2
      go_ret
      exact ⟨rfl, B1.out⟩
    · rw [if_neg (by simp), if_neg hx] at hD
      subst hD
      go_wp2
      go_ret
      exact ⟨rfl, B1.out⟩
  · rw [if_pos rfl] at hD
    subst hD
    go_wp2
    go_ret
    exact ⟨rfl, B1.out⟩
end Go.Proofs.YteoeoomdjfhmbaaDoor
