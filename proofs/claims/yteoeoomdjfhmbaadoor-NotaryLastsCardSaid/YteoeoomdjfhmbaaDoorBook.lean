/-
  A notary's book (keys of 32 bytes), as a list of its entries: look-up, what is new, how many there are.
-/
import Derived.Test.YteoeoomdjfhmbaaDoorLock
import Derived.Maps.Own
import Derived.DeepKeys4
import Derived.ChangeMaps
import Derived.OpenShut
import Derived.ChangeOld
import Derived.SizedLaws
import Derived.Deep.Matrix
import Derived.Deep.DeepHandedRow
namespace Go.Proofs.YteoeoomdjfhmbaaDoor
open Go.RowKit
set_option linter.unusedVariables false

/-- Nothing that was told. -/
def ecells (s : List Nat) (h : Int) : List Value := w8 s ++ [Value.int .u64 h]
def zeroE : Value := .agg (ecells (List.replicate 32 0) 0).toArray
theorem zero77 (w : World) : (zeroValue 77).run Tryd.prog w = .ok zeroE w := Tryd.zeroValue77 w
/-- A key as a value. -/
def kv (k : List Nat) : Value := .agg (w8 k).toArray
theorem under53 : Tryd.prog.underlying 53 = some (.array 32 5) := by kernel_rfl
theorem under73 : Tryd.prog.underlying 73 = some (.map 53 77) := by kernel_rfl
theorem laidOut : laidOutB Tryd.prog = true := by kernel_rfl
theorem cells5 : Tryd.prog.cellsOf 5 = 1 := by kernel_rfl
theorem keyType53 : Tryd.prog.keyType 53 = true := by kernel_rfl
theorem cells53 : Tryd.prog.cellsOf 53 = 32 := by kernel_rfl
theorem law53 : WideMaps.KeyLaw Tryd.prog 53 := deep_law_laid laidOut (m := 2) (by omega) (of_decide_eq_true (by kernel_rfl)) (by kernel_rfl) (by kernel_rfl)
theorem keyed53 : Maps.Keyed Tryd.prog 53 := Maps.Keyed.of_law law53
theorem mapM_ex {α β : Type} (f : α → Option β) : ∀ l : List α, (∀ x ∈ l, ∃ y, f x = some y) → ∃ ys, l.mapM f = some ys
  | [], _ => ⟨[], rfl⟩
  | x :: r, h => by
    obtain ⟨y, hy⟩ := h x (by simp)
    obtain ⟨ys, hys⟩ := mapM_ex f r (fun z hz => h z (by simp [hz]))
    exact ⟨y :: ys, by rw [List.mapM_cons, hy, hys]; rfl⟩
theorem key_kv (k : List Nat) (hk : k.length = 32) (hb : ∀ x ∈ k, x < 256) : ∃ l, keyOf Tryd.prog 53 (kv k) = some l := by
  obtain ⟨m, hm⟩ : ∃ m, Tryd.prog.types.size = m + 1 := ⟨Tryd.prog.types.size - 1, by kernel_rfl⟩
  have hl : (w8 k).length = 32 := by rw [w8_length, hk]
  have hmm : ∃ ys, ((List.range 32).mapM fun i => Tryd.prog.keyLits (m + 1) 5 (((w8 k).drop (i * Tryd.prog.cellsOf 5)).take (Tryd.prog.cellsOf 5))) = some ys := by
    refine mapM_ex _ _ fun i hi => ?_
    have hi' : i < 32 := List.mem_range.1 hi
    have e1 : ((w8 k).drop (i * Tryd.prog.cellsOf 5)).take (Tryd.prog.cellsOf 5) = [.int .u8 ((k.getD i 0 : Nat) : Int)] := by
      rw [cells5, Nat.mul_one, List.drop_eq_getElem_cons (by omega), List.take_succ_cons, List.take_zero]
      congr 1
      have := w8_get k i (by omega)
      rw [List.getElem?_eq_getElem (by omega)] at this
      exact Option.some.inj this
    rw [e1]
    have hx : k.getD i 0 < 256 := by
      have : k.getD i 0 = k[i]'(by omega) := by simp [List.getD, show i < k.length by omega]
      rw [this]
      exact hb _ (List.getElem_mem _)
    have wf : (Lit.int .u8 ((k.getD i 0 : Nat) : Int)).wf = true := by
      obtain ⟨z, hz⟩ : ∃ z, k.getD i 0 = z := ⟨_, rfl⟩
      rw [hz] at hx ⊢
      simp [Lit.wf, IntKind.min, IntKind.max, IntKind.signed, IntKind.bits]; omega
    unfold Program.keyLits
    simp only [Tryd.underlying5]
    exact ⟨_, if_pos ⟨trivial, wf⟩⟩
  obtain ⟨ys, hys⟩ := hmm
  refine ⟨.string (keyBytes ys.flatten), ?_⟩
  unfold keyOf
  simp only [under53]
  rw [if_pos (by simp [keyType53, Value.formed, cells53, kv, hl]), hm]
  have e : Tryd.prog.keyLits (m + 1 + 1) 53 (kv k).cells.toList = some ys.flatten := by
    unfold Program.keyLits
    simp only [under53, kv, Value.cells]
    rw [if_pos (by rw [cells53]; exact hl), hys]
    rfl
  rw [e]
  rfl
theorem kv_inj (a b : List Nat) (h : kv a = kv b) : a = b := by
  unfold kv at h
  injection h with h
  have h2 := congrArg Array.toList h
  simp only [w8] at h2
  have : ∀ (l m : List Nat), (l.map fun (x : Nat) => Value.int .u8 (x : Int)) = (m.map fun (x : Nat) => Value.int .u8 (x : Int)) → l = m := by
    intro l
    induction l with
    | nil => intro m h; cases m with
      | nil => rfl
      | cons => simp at h
    | cons x l ih => intro m h; cases m with
      | nil => simp at h
      | cons y m =>
        simp only [List.map_cons, List.cons.injEq, Value.int.injEq] at h
        rw [ih m h.2]
        have : x = y := by omega
        rw [this]
  exact this a b h2

/-- The log's entries: of each beginning the text that was noted last. -/
structure NMap (w : World) (b : Nat) (T : List (List Nat × Value)) : Prop where
  ex : ∃ es clock, w.heap[b]? = some (.map es clock) ∧ es.toList.map (fun e => (e.key, e.val)) = T.map (fun p => (kv p.1, p.2))
  keys : ∀ p ∈ T, p.1.length = 32 ∧ ∀ x ∈ p.1, x < 256



theorem NMap.look {w : World} {b : Nat} {T : List (List Nat × Value)} (h : NMap w b T) (k : List Nat) (hk : k.length = 32) (hb : ∀ x ∈ k, x < 256) :
    ((Instr.lookup 73 (.map (some b)) (kv k) true).run Tryd.prog w = .ok (.tuple #[zeroE, .bool false]) w ∧ ∀ p ∈ T, p.1 ≠ k) ∨
    ∃ (j : Nat) (v : Value), T[j]? = some (k, v) ∧ (Instr.lookup 73 (.map (some b)) (kv k) true).run Tryd.prog w = .ok (.tuple #[v, .bool true]) w := by
  obtain ⟨es, clock, hh, hm⟩ := h.ex
  obtain ⟨l, hl⟩ := key_kv k hk hb
  have hkeys : ∀ e ∈ es.toList, ∃ l, keyOf Tryd.prog 53 e.key = some l := by
    intro e he
    have h1 : (e.key, e.val) ∈ es.toList.map (fun e => (e.key, e.val)) := List.mem_map.2 ⟨e, he, rfl⟩
    rw [hm] at h1
    obtain ⟨p, hp, hpe⟩ := List.mem_map.1 h1
    obtain ⟨h2, h3⟩ := h.keys p hp
    obtain ⟨l, hl⟩ := key_kv p.1 h2 h3
    have e1 := (Prod.mk.inj hpe).1
    exact ⟨l, by rw [← e1]; exact hl⟩
  rcases keyed53.find w hl es.toList hkeys with ⟨h1, h2⟩ | ⟨j, e, h1, h2, h3⟩
  · refine .inl ⟨by simp [Instr.lookup, run_underlying under73, MapKept.run_getObj_map hh, keyed53.check w _ hl, h1, Result.andThen]; rfl, fun p hp he => ?_⟩
    have h4 : (kv p.1, p.2) ∈ T.map (fun p => (kv p.1, p.2)) := List.mem_map.2 ⟨p, hp, rfl⟩
    rw [← hm] at h4
    obtain ⟨e, he2, he3⟩ := List.mem_map.1 h4
    exact h2 e he2 (by rw [(Prod.mk.inj he3).1, he])
  · have h4 : (es.toList.map (fun e => (e.key, e.val)))[j]? = some (e.key, e.val) := by rw [List.getElem?_map, h2]; rfl
    rw [hm, List.getElem?_map] at h4
    obtain ⟨p, hp, hpe⟩ := Option.map_eq_some_iff.1 h4
    have e1 := (Prod.mk.inj hpe).1
    have e2 := (Prod.mk.inj hpe).2
    have e3 : p.1 = k := kv_inj _ _ (by rw [e1, h3])
    exact .inr ⟨j, e.val, by rw [hp, ← e2, ← e3], by simp [Instr.lookup, run_underlying under73, MapKept.run_getObj_map hh, keyed53.check w _ hl, h1, Result.andThen]⟩

theorem NMap.keysOf {w : World} {b : Nat} {T : List (List Nat × Value)} (h : NMap w b T) {es : Array MapEntry} (hm : es.toList.map (fun e => (e.key, e.val)) = T.map (fun p => (kv p.1, p.2))) : ∀ e ∈ es.toList, ∃ l, keyOf Tryd.prog 53 e.key = some l := by
  intro e he
  have h1 : (e.key, e.val) ∈ es.toList.map (fun e => (e.key, e.val)) := List.mem_map.2 ⟨e, he, rfl⟩
  rw [hm] at h1
  obtain ⟨p, hp, hpe⟩ := List.mem_map.1 h1
  obtain ⟨h2, h3⟩ := h.keys p hp
  obtain ⟨l, hl⟩ := key_kv p.1 h2 h3
  have e1 := (Prod.mk.inj hpe).1
  exact ⟨l, by rw [← e1]; exact hl⟩
theorem set_block {w : World} {b : Nat} {es es' : Array MapEntry} {clock clock' : Nat} (hh : w.heap[b]? = some (.map es clock)) : (ChangeMaps.setBlock w b (.map es' clock')).heap[b]? = some (.map es' clock') ∧ w.grownBy (ChangeMaps.setBlock w b (.map es' clock')) (some b) :=
  ⟨ChangeMaps.heap_setBlock_same hh _, rfl, rfl, rfl, by simp [ChangeMaps.setBlock], fun i _ hi => ChangeMaps.heap_setBlock_other hh _ (fun e => hi (by rw [e]))⟩

theorem NMap.new_ {w : World} {b : Nat} {T : List (List Nat × Value)} (h : NMap w b T) (k : List Nat) (hk : k.length = 32) (hb : ∀ x ∈ k, x < 256) (v : Value) (hn : ∀ p ∈ T, p.1 ≠ k) :
    ∃ w', (Instr.mapUpdate 73 (.map (some b)) (kv k) v).run Tryd.prog w = .ok () w' ∧ NMap w' b (T ++ [(k, v)]) ∧ w.grownBy w' (some b) := by
  obtain ⟨es, clock, hh, hm⟩ := h.ex
  obtain ⟨l, hl⟩ := key_kv k hk hb
  rcases keyed53.find w hl es.toList (h.keysOf hm) with ⟨h1, h2⟩ | ⟨j, e, h1, h2, h3⟩
  · obtain ⟨s1, s2⟩ := set_block (es' := es.push ⟨kv k, v, clock⟩) (clock' := clock + 1) hh
    refine ⟨_, by simp [Instr.mapUpdate, run_underlying under73, MapKept.run_getObj_map hh, keyed53.check w false hl, h1, MapKept.run_setObj_map _ hh, Result.andThen, ChangeMaps.setBlock], ⟨⟨_, _, s1, by simp [hm]⟩, ?_⟩, s2⟩
    intro p hp
    rcases List.mem_append.1 hp with hp | hp
    · exact h.keys p hp
    · simp at hp
      subst hp
      exact ⟨hk, hb⟩
  · exfalso
    have h4 : (es.toList.map (fun e => (e.key, e.val)))[j]? = some (e.key, e.val) := by rw [List.getElem?_map, h2]; rfl
    rw [hm, List.getElem?_map] at h4
    obtain ⟨p, hp, hpe⟩ := Option.map_eq_some_iff.1 h4
    exact hn p (List.mem_of_getElem? hp) (kv_inj _ _ (by rw [(Prod.mk.inj hpe).1, h3]))
theorem NMap.again {w : World} {b : Nat} {T : List (List Nat × Value)} (h : NMap w b T) (k : List Nat) (hk : k.length = 32) (hb : ∀ x ∈ k, x < 256) (v u : Value) (i : Nat) (hi : T[i]? = some (k, u)) (hd : ∀ j u', T[j]? = some (k, u') → j = i) :
    ∃ w', (Instr.mapUpdate 73 (.map (some b)) (kv k) v).run Tryd.prog w = .ok () w' ∧ NMap w' b (T.set i (k, v)) ∧ w.grownBy w' (some b) := by
  obtain ⟨es, clock, hh, hm⟩ := h.ex
  obtain ⟨l, hl⟩ := key_kv k hk hb
  rcases keyed53.find w hl es.toList (h.keysOf hm) with ⟨h1, h2⟩ | ⟨j, e, h1, h2, h3⟩
  · exfalso
    have h4 : (kv k, u) ∈ T.map (fun p => (kv p.1, p.2)) := List.mem_map.2 ⟨(k, u), List.mem_of_getElem? hi, rfl⟩
    rw [← hm] at h4
    obtain ⟨e, he2, he3⟩ := List.mem_map.1 h4
    exact h2 e he2 (Prod.mk.inj he3).1
  · have h4 : (es.toList.map (fun e => (e.key, e.val)))[j]? = some (e.key, e.val) := by rw [List.getElem?_map, h2]; rfl
    rw [hm, List.getElem?_map] at h4
    obtain ⟨p, hp, hpe⟩ := Option.map_eq_some_iff.1 h4
    have e3 : p.1 = k := kv_inj _ _ (by rw [(Prod.mk.inj hpe).1, h3])
    have hji : j = i := hd j p.2 (by rw [hp, ← e3])
    subst hji
    have hj : es[j]? = some e := by simpa using h2
    obtain ⟨s1, s2⟩ := set_block (es' := es.modify j (fun e' => { e' with key := kv k, val := v })) (clock' := clock) hh
    refine ⟨_, by simp [Instr.mapUpdate, run_underlying under73, MapKept.run_getObj_map hh, keyed53.check w false hl, h1, hj, h3, keyed53.stays w hl, MapKept.run_setObj_map _ hh, Result.andThen, ChangeMaps.setBlock], ⟨⟨_, _, s1, ?_⟩, ?_⟩, s2⟩
    · rw [Array.toList_modify, ChangeMaps.modify_eq_set _ _ _ _ h2, List.map_set, hm, List.map_set]
    · intro q hq
      rcases List.mem_or_eq_of_mem_set hq with hq | rfl
      · exact h.keys q hq
      · exact ⟨hk, hb⟩
theorem NMap.len {w : World} {b : Nat} {T : List (List Nat × Value)} (h : NMap w b T) : ∃ es clock, w.heap[b]? = some (.map es clock) ∧ es.size = T.length := by
  obtain ⟨es, clock, hh, hm⟩ := h.ex
  have := congrArg List.length hm
  exact ⟨es, clock, hh, by simpa using this⟩
theorem NMap.below {w w' : World} {b : Nat} {T : List (List Nat × Value)} (h : NMap w b T) (hB : Below w.heap.size w w') : NMap w' b T := by
  obtain ⟨es, clock, hh, hm⟩ := h.ex
  exact ⟨⟨es, clock, (hB.block b (Array.getElem?_eq_some_iff.1 hh).1).trans hh, hm⟩, h.keys⟩
theorem NMap.far {w w' : World} {b : Nat} {T : List (List Nat × Value)} {r : Option Nat} (h : NMap w b T) (hg : w.grownBy w' r) (hne : some b ≠ r) : NMap w' b T := by
  obtain ⟨es, clock, hh, hm⟩ := h.ex
  exact ⟨⟨es, clock, (hg.block b (Array.getElem?_eq_some_iff.1 hh).1 hne).trans hh, hm⟩, h.keys⟩
theorem NMap.empty (w : World) : NMap (w.alloc (.map #[] 0)) w.heap.size [] := ⟨⟨#[], 0, heap_alloc_last w _, rfl⟩, by simp⟩
theorem NMap.lt {w : World} {b : Nat} {T : List (List Nat × Value)} (h : NMap w b T) : b < w.heap.size := by
  obtain ⟨es, clock, hh, _⟩ := h.ex
  exact (Array.getElem?_eq_some_iff.1 hh).1
theorem NMap.drewN {w : World} {b : Nat} {T : List (List Nat × Value)} (h : NMap w b T) (n : Nat) : NMap (w.drewN n) b T := ⟨h.ex, h.keys⟩
end Go.Proofs.YteoeoomdjfhmbaaDoor
