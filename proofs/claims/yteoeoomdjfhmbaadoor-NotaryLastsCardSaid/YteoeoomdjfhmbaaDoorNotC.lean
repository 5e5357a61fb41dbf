/-
  A notary's New, Tell, Many, Twin; what a nil one answers.
-/
import Derived.Test.YteoeoomdjfhmbaaDoorNotB
import Derived.Shelf.SlMaps.Clone
namespace Go.Proofs.YteoeoomdjfhmbaaDoor
open Go.RowKit
set_option linter.unusedVariables false

section
variable {P : Program} {ops : Array Oper} {o : Oper} {a : Act} {w : World} {K : Act → World → Prop} {Q : Exit → Act → World → Prop} {E : Prop}
theorem step_put (hw : Region.wanted o (yielded ops a.tmps) = true) (t : TypeId) (m k v : Operand) (ho : o.op = .mapUpdate t m k v) (W : World) (hb : (Instr.mapUpdate t (a.eval m) (a.eval k) (a.eval v)).run P w = .ok () W)
    (h : K (a.put o.dst undef) W) : if Region.wanted o (yielded ops a.tmps) = true then Oper.wp P o a w K Q else E := by
  rw [if_pos hw]
  unfold Oper.wp execOp
  simp only [ho, Sem.run_bind, hb, Result.andThen_ok, Sem.run_pure]
  exact h
end

def hsh (s : List Nat) : List Nat := sha (text 6 [s])
theorem hsh_length (s : List Nat) : (hsh s).length = 32 := sha_length _
theorem hsh_lt (s : List Nat) : ∀ x ∈ hsh s, x < 256 := by
  intro x hx
  unfold hsh sha at hx
  obtain ⟨y, hy, hx⟩ := List.mem_flatMap.1 hx
  exact four_lt y (wordsAt_lt _ _ y hy) x hx

theorem built77 (s : List Nat) (hs : s.length = 32) (ht : Int) (W : World) : (Instr.build 77 #[(0, .agg (w8 s).toArray), (1, .int .u64 ht)]).run Tryd.prog W = .ok (.agg (ecells s ht).toArray) W := by
  refine run_build W 77 _ _ ?_
  match s, hs with
  | [a0, a1, a2, a3, a4, a5, a6, a7, a8, a9, b0, b1, b2, b3, b4, b5, b6, b7, b8, b9, c0, c1, c2, c3, c4, c5, c6, c7, c8, c9, d0, d1], _ =>
    show Program.built Tryd.prog 77 _ = some _
    kernel_rfl

theorem mk_map (W : World) : (Instr.makeMap 73 none).run Tryd.prog W = .ok (.map (some W.heap.size)) (W.alloc (.map #[] 0)) := by
  simp [Instr.makeMap, Result.andThen, go_sem]
set_option maxRecDepth 100000 in
set_option maxHeartbeats 2000000 in
theorem notary_new (w : World) : Calls Tryd.prog 7 #[] w fun e w' => ∃ g b, e = .returned (.pointer (some ⟨g, 0, none⟩)) ∧ Blk w' g 75 [.map (some b)] ∧ NMap w' b ([].map tv) ∧ Below w.heap.size w w' ∧ w.heap.size ≤ b ∧ w.heap.size ≤ g := by
  have hmk := fun W => mk_map W
  go_enter Tryd.func7, Tryd.ntmps7
  go_wp2
  go_ret
  refine ⟨_, _, rfl, Blk.mk_ (cs := [.map (some w.heap.size)]) (by simp), ?_, ((Below.refl _ _).alloc (Nat.le_refl _) _).alloc (by simp) _, Nat.le_refl _, by simp⟩
  exact (NMap.empty w).below ((Below.refl _ _).alloc (Nat.le_refl _) _)

set_option maxRecDepth 100000 in
set_option maxHeartbeats 2000000 in
theorem many_nil (w : World) : Calls Tryd.prog 11 #[.pointer none] w fun e w' => e = .returned (.int .i64 0) ∧ w = w' := by
  go_enter Tryd.func11, Tryd.ntmps11
  go_wp2
  go_ret
  exact ⟨rfl, rfl⟩
set_option maxRecDepth 100000 in
set_option maxHeartbeats 2000000 in
theorem many_any (g b : Nat) (T : List (List Nat × Value)) (w : World) (HN : Hid (Blk w g 75 [.map (some b)])) (HM : Hid (NMap w b T)) :
    Calls Tryd.prog 11 #[.pointer (some ⟨g, 0, none⟩)] w fun e w' => e = .returned (.int .i64 (T.length : Int)) ∧ w = w' := by
  obtain ⟨es, clock, hh, hl⟩ := HM.out.len
  have c0 : w.cell? ⟨g, 0, none⟩ = some (.map (some b)) := HN.out.cell 0
  have hln : (Builtin.len_ #[73] 3 #[.map (some b)]).run Tryd.prog w = .ok (.int .i64 (T.length : Int)) w := by
    simp [Builtin.len_, run_underlying under73, MapKept.run_getObj_map hh, goInt, hl, Result.andThen]
  go_enter Tryd.func11, Tryd.ntmps11
  go_wp2
  go_ret
  exact ⟨rfl, rfl⟩
set_option maxRecDepth 100000 in
set_option maxHeartbeats 2000000 in
theorem twin_nil (w : World) : Calls Tryd.prog 22 #[.pointer none] w fun e w' => e = .returned (.pointer none) ∧ w = w' := by
  go_enter Tryd.func22, Tryd.ntmps22
  go_wp2
  go_ret
  exact ⟨rfl, rfl⟩
set_option maxRecDepth 100000 in
set_option maxHeartbeats 2000000 in
theorem hashes_nil (w : World) : Calls Tryd.prog 14 #[.pointer none] w fun e w' => e = .returned (.slice none 0 0) ∧ w = w' := by
  go_enter Tryd.func14, Tryd.ntmps14
  go_wp2
  go_ret
  exact ⟨rfl, rfl⟩
set_option maxRecDepth 100000 in
set_option maxHeartbeats 2000000 in
theorem tell_nil (v : Value) (ht : Value) (w : World) (hv : ∃ s, v = .agg (w8 s).toArray) : Calls Tryd.prog 9 #[.pointer none, v, ht] w fun e w' => e = .returned (.int .i64 2) ∧ Below w.heap.size w w' := by
  obtain ⟨s, rfl⟩ := hv
  go_enter Tryd.func9, Tryd.ntmps9
  go_wp2
  go_ret
  exact ⟨rfl, (Below.refl _ _).alloc (Nat.le_refl _) _⟩
set_option maxRecDepth 100000 in
set_option maxHeartbeats 2000000 in
theorem clone_any (b : Nat) (es : Array MapEntry) (clock : Nat) (w : World) (hb : w.heap[b]? = some (.map es clock)) :
    Calls Tryd.prog 31 #[.map (some b)] w fun e w' => e = .returned (.map (some w.heap.size)) ∧ w' = w.alloc (.map es clock) := by
  have hq := fun w => run_eql_map_nil_sl (P := Tryd.prog) w 73 _ _ (some b) under73
  go_enter Tryd.func31, Tryd.ntmps31
  go_wp2
  rw [run_callFunc_extern Tryd.func38 (by kernel_rfl) (by kernel_rfl) (by kernel_rfl) (e := Extern.MapsClone.clone) (by kernel_rfl), run_maps_clone_sl w 73 hb]
  simp only [Result.andThen]
  rw [Oper.upon_value]
  go_wp2
  rw [run_typeAssert_map_sl _ 73 20 _ _ _ under73]
  simp only [Result.andThen]
  rw [Oper.upon_value]
  go_wp2
  go_ret
  exact ⟨rfl, rfl⟩
set_option maxRecDepth 100000 in
set_option maxHeartbeats 2000000 in
theorem twin_any (g b : Nat) (T : List (List Nat × Value)) (w : World) (HN : Hid (Blk w g 75 [.map (some b)])) (HM : Hid (NMap w b T)) :
    Calls Tryd.prog 22 #[.pointer (some ⟨g, 0, none⟩)] w fun e w' => ∃ g' b', e = .returned (.pointer (some ⟨g', 0, none⟩)) ∧ Blk w' g' 75 [.map (some b')] ∧ NMap w' b' T ∧ Below w.heap.size w w' ∧ w.heap.size ≤ b' ∧ w.heap.size ≤ g' := by
  obtain ⟨es, clock, hh, hm⟩ := HM.out.ex
  have hk := HM.out.keys
  have c0 : w.cell? ⟨g, 0, none⟩ = some (.map (some b)) := HN.out.cell 0
  have HH := Lib.hid hh
  have HMM := Lib.hid hm
  clear hh hm
  go_enter Tryd.func22, Tryd.ntmps22
  go_wp2_with fail
  refine (clone_any b es clock w HH.out).mono ?_
  rintro e w' ⟨rfl, rfl⟩
  go_wp2
  go_ret
  refine ⟨_, _, rfl, Blk.mk_ (cs := [.map (some w.heap.size)]) (by simp), ?_, ((Below.refl _ _).alloc (Nat.le_refl _) _).alloc (by simp) _, Nat.le_refl _, by simp⟩
  have h0 : NMap (w.alloc (.map es clock)) w.heap.size T := ⟨⟨es, clock, heap_alloc_last w _, HMM.out⟩, hk⟩
  exact h0.below ((Below.refl _ _).alloc (Nat.le_refl _) _)
end Go.Proofs.YteoeoomdjfhmbaaDoor
