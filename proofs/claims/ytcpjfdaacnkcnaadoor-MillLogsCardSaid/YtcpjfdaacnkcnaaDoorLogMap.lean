/-
  A log's map (keys of four bytes, slices as elements), as a list of its entries: look-up, update, how many there are.
-/
import Derived.Test.YtcpjfdaacnkcnaaDoorApartNum
import Derived.Test.YtcpjfdaacnkcnaaDoorArg
import Derived.Maps.Own
import Derived.DeepKeys4
namespace Go.Proofs.YtcpjfdaacnkcnaaDoor
open Go.RowKit
set_option linter.unusedVariables false

/-- A key as a value. -/
def kv (k : List Nat) : Value := .agg (w8 k).toArray
theorem under52 : Tryd.prog.underlying 52 = some (.array 4 5) := by kernel_rfl
theorem under47 : Tryd.prog.underlying 47 = some (.map 52 22) := by kernel_rfl
theorem keyType52 : Tryd.prog.keyType 52 = true := by kernel_rfl
theorem cells52 : Tryd.prog.cellsOf 52 = 4 := by kernel_rfl
theorem law52 : WideMaps.KeyLaw Tryd.prog 52 := deep_law_laid laidOut (m := 2) (by omega) (of_decide_eq_true (by kernel_rfl)) (by kernel_rfl) (by kernel_rfl)
theorem keyed52 : Maps.Keyed Tryd.prog 52 := Maps.Keyed.of_law law52
theorem key_kv (k : List Nat) (hk : k.length = 4) (hb : ∀ x ∈ k, x < 256) : ∃ l, keyOf Tryd.prog 52 (kv k) = some l := by
  match k, hk, hb with
  | [a, b, c, d], _, hb =>
    have wf : ∀ x : Nat, x < 256 → (Lit.int .u8 (x : Int)).wf = true := fun x hx => by simp [Lit.wf, IntKind.min, IntKind.max, IntKind.signed, IntKind.bits]; omega
    have wa := wf a (hb a (by simp))
    have wb := wf b (hb b (by simp))
    have wc := wf c (hb c (by simp))
    have wd := wf d (hb d (by simp))
    refine ⟨.string (keyBytes [.int .u8 a, .int .u8 b, .int .u8 c, .int .u8 d]), ?_⟩
    obtain ⟨m, hm⟩ : ∃ m, Tryd.prog.types.size = m + 1 := ⟨Tryd.prog.types.size - 1, by kernel_rfl⟩
    unfold keyOf
    simp only [under52]
    rw [if_pos (by simp [keyType52, Value.formed, cells52, kv, w8]), hm]
    unfold Program.keyLits
    simp only [under52, Value.cells, kv, w8, List.map_cons, List.map_nil]
    rw [if_pos (by rw [cells52]; rfl), show List.range 4 = [0, 1, 2, 3] from rfl, List.mapM_cons, List.mapM_cons, List.mapM_cons, List.mapM_cons, List.mapM_nil]
    simp [cells5, Program.keyLits, Tryd.underlying5, wa, wb, wc, wd]
theorem kv_inj (a b : List Nat) (h : kv a = kv b) : a = b := by
  unfold kv at h
  injection h with h
  have h2 := congrArg Array.toList h
  simp only [w8] at h2
  have : ∀ (l m : List Nat), (l.map fun (x : Nat) => Value.int .u8 (x : Int)) = (m.map fun (x : Nat) => Value.int .u8 (x : Int)) → l = m := by
    intro l
    induction l with
    | nil => intro m h; cases m with
      | nil => rfl
      | cons => simp at h
    | cons x l ih => intro m h; cases m with
      | nil => simp at h
      | cons y m =>
        simp only [List.map_cons, List.cons.injEq, Value.int.injEq] at h
        rw [ih m h.2]
        have : x = y := by omega
        rw [this]
  exact this a b h2

/-- The log's entries: of each beginning the text that was noted last. -/
structure LogMap (w : World) (b : Nat) (T : List (List Nat × Value)) : Prop where
  ex : ∃ es clock, w.heap[b]? = some (.map es clock) ∧ es.toList.map (fun e => (e.key, e.val)) = T.map (fun p => (kv p.1, p.2))
  keys : ∀ p ∈ T, p.1.length = 4 ∧ ∀ x ∈ p.1, x < 256

theorem zero22 (w : World) : (zeroValue 22).run Tryd.prog w = .ok (.slice none 0 0) w := Tryd.zeroValue22 w

theorem LogMap.look {w : World} {b : Nat} {T : List (List Nat × Value)} (h : LogMap w b T) (k : List Nat) (hk : k.length = 4) (hb : ∀ x ∈ k, x < 256) :
    ((Instr.lookup 47 (.map (some b)) (kv k) true).run Tryd.prog w = .ok (.tuple #[.slice none 0 0, .bool false]) w ∧ ∀ p ∈ T, p.1 ≠ k) ∨
    ∃ (j : Nat) (v : Value), T[j]? = some (k, v) ∧ (Instr.lookup 47 (.map (some b)) (kv k) true).run Tryd.prog w = .ok (.tuple #[v, .bool true]) w := by
  obtain ⟨es, clock, hh, hm⟩ := h.ex
  obtain ⟨l, hl⟩ := key_kv k hk hb
  have hkeys : ∀ e ∈ es.toList, ∃ l, keyOf Tryd.prog 52 e.key = some l := by
    intro e he
    have h1 : (e.key, e.val) ∈ es.toList.map (fun e => (e.key, e.val)) := List.mem_map.2 ⟨e, he, rfl⟩
    rw [hm] at h1
    obtain ⟨p, hp, hpe⟩ := List.mem_map.1 h1
    obtain ⟨h2, h3⟩ := h.keys p hp
    obtain ⟨l, hl⟩ := key_kv p.1 h2 h3
    have e1 := (Prod.mk.inj hpe).1
    exact ⟨l, by rw [← e1]; exact hl⟩
  rcases keyed52.find w hl es.toList hkeys with ⟨h1, h2⟩ | ⟨j, e, h1, h2, h3⟩
  · refine .inl ⟨by simp [Instr.lookup, run_underlying under47, MapKept.run_getObj_map hh, keyed52.check w _ hl, h1, Result.andThen], fun p hp he => ?_⟩
    have h4 : (kv p.1, p.2) ∈ T.map (fun p => (kv p.1, p.2)) := List.mem_map.2 ⟨p, hp, rfl⟩
    rw [← hm] at h4
    obtain ⟨e, he2, he3⟩ := List.mem_map.1 h4
    exact h2 e he2 (by rw [(Prod.mk.inj he3).1, he])
  · have h4 : (es.toList.map (fun e => (e.key, e.val)))[j]? = some (e.key, e.val) := by rw [List.getElem?_map, h2]; rfl
    rw [hm, List.getElem?_map] at h4
    obtain ⟨p, hp, hpe⟩ := Option.map_eq_some_iff.1 h4
    have e1 := (Prod.mk.inj hpe).1
    have e2 := (Prod.mk.inj hpe).2
    have e3 : p.1 = k := kv_inj _ _ (by rw [e1, h3])
    exact .inr ⟨j, e.val, by rw [hp, ← e2, ← e3], by simp [Instr.lookup, run_underlying under47, MapKept.run_getObj_map hh, keyed52.check w _ hl, h1, Result.andThen]⟩

theorem LogMap.keysOf {w : World} {b : Nat} {T : List (List Nat × Value)} (h : LogMap w b T) {es : Array MapEntry} (hm : es.toList.map (fun e => (e.key, e.val)) = T.map (fun p => (kv p.1, p.2))) : ∀ e ∈ es.toList, ∃ l, keyOf Tryd.prog 52 e.key = some l := by
  intro e he
  have h1 : (e.key, e.val) ∈ es.toList.map (fun e => (e.key, e.val)) := List.mem_map.2 ⟨e, he, rfl⟩
  rw [hm] at h1
  obtain ⟨p, hp, hpe⟩ := List.mem_map.1 h1
  obtain ⟨h2, h3⟩ := h.keys p hp
  obtain ⟨l, hl⟩ := key_kv p.1 h2 h3
  have e1 := (Prod.mk.inj hpe).1
  exact ⟨l, by rw [← e1]; exact hl⟩
theorem set_block {w : World} {b : Nat} {es es' : Array MapEntry} {clock clock' : Nat} (hh : w.heap[b]? = some (.map es clock)) : (ChangeMaps.setBlock w b (.map es' clock')).heap[b]? = some (.map es' clock') ∧ w.grownBy (ChangeMaps.setBlock w b (.map es' clock')) (some b) :=
  ⟨ChangeMaps.heap_setBlock_same hh _, rfl, rfl, rfl, by simp [ChangeMaps.setBlock], fun i _ hi => ChangeMaps.heap_setBlock_other hh _ (fun e => hi (by rw [e]))⟩

theorem LogMap.new_ {w : World} {b : Nat} {T : List (List Nat × Value)} (h : LogMap w b T) (k : List Nat) (hk : k.length = 4) (hb : ∀ x ∈ k, x < 256) (v : Value) (hn : ∀ p ∈ T, p.1 ≠ k) :
    ∃ w', (Instr.mapUpdate 47 (.map (some b)) (kv k) v).run Tryd.prog w = .ok () w' ∧ LogMap w' b (T ++ [(k, v)]) ∧ w.grownBy w' (some b) := by
  obtain ⟨es, clock, hh, hm⟩ := h.ex
  obtain ⟨l, hl⟩ := key_kv k hk hb
  rcases keyed52.find w hl es.toList (h.keysOf hm) with ⟨h1, h2⟩ | ⟨j, e, h1, h2, h3⟩
  · obtain ⟨s1, s2⟩ := set_block (es' := es.push ⟨kv k, v, clock⟩) (clock' := clock + 1) hh
    refine ⟨_, by simp [Instr.mapUpdate, run_underlying under47, MapKept.run_getObj_map hh, keyed52.check w false hl, h1, MapKept.run_setObj_map _ hh, Result.andThen, ChangeMaps.setBlock], ⟨⟨_, _, s1, by simp [hm]⟩, ?_⟩, s2⟩
    intro p hp
    rcases List.mem_append.1 hp with hp | hp
    · exact h.keys p hp
    · simp at hp
      subst hp
      exact ⟨hk, hb⟩
  · exfalso
    have h4 : (es.toList.map (fun e => (e.key, e.val)))[j]? = some (e.key, e.val) := by rw [List.getElem?_map, h2]; rfl
    rw [hm, List.getElem?_map] at h4
    obtain ⟨p, hp, hpe⟩ := Option.map_eq_some_iff.1 h4
    exact hn p (List.mem_of_getElem? hp) (kv_inj _ _ (by rw [(Prod.mk.inj hpe).1, h3]))
theorem LogMap.again {w : World} {b : Nat} {T : List (List Nat × Value)} (h : LogMap w b T) (k : List Nat) (hk : k.length = 4) (hb : ∀ x ∈ k, x < 256) (v u : Value) (i : Nat) (hi : T[i]? = some (k, u)) (hd : ∀ j u', T[j]? = some (k, u') → j = i) :
    ∃ w', (Instr.mapUpdate 47 (.map (some b)) (kv k) v).run Tryd.prog w = .ok () w' ∧ LogMap w' b (T.set i (k, v)) ∧ w.grownBy w' (some b) := by
  obtain ⟨es, clock, hh, hm⟩ := h.ex
  obtain ⟨l, hl⟩ := key_kv k hk hb
  rcases keyed52.find w hl es.toList (h.keysOf hm) with ⟨h1, h2⟩ | ⟨j, e, h1, h2, h3⟩
  · exfalso
    have h4 : (kv k, u) ∈ T.map (fun p => (kv p.1, p.2)) := List.mem_map.2 ⟨(k, u), List.mem_of_getElem? hi, rfl⟩
    rw [← hm] at h4
    obtain ⟨e, he2, he3⟩ := List.mem_map.1 h4
    exact h2 e he2 (Prod.mk.inj he3).1
  · have h4 : (es.toList.map (fun e => (e.key, e.val)))[j]? = some (e.key, e.val) := by rw [List.getElem?_map, h2]; rfl
    rw [hm, List.getElem?_map] at h4
    obtain ⟨p, hp, hpe⟩ := Option.map_eq_some_iff.1 h4
    have e3 : p.1 = k := kv_inj _ _ (by rw [(Prod.mk.inj hpe).1, h3])
    have hji : j = i := hd j p.2 (by rw [hp, ← e3])
    subst hji
    have hj : es[j]? = some e := by simpa using h2
    obtain ⟨s1, s2⟩ := set_block (es' := es.modify j (fun e' => { e' with key := kv k, val := v })) (clock' := clock) hh
    refine ⟨_, by simp [Instr.mapUpdate, run_underlying under47, MapKept.run_getObj_map hh, keyed52.check w false hl, h1, hj, h3, keyed52.stays w hl, MapKept.run_setObj_map _ hh, Result.andThen, ChangeMaps.setBlock], ⟨⟨_, _, s1, ?_⟩, ?_⟩, s2⟩
    · rw [Array.toList_modify, ChangeMaps.modify_eq_set _ _ _ _ h2, List.map_set, hm, List.map_set]
    · intro q hq
      rcases List.mem_or_eq_of_mem_set hq with hq | rfl
      · exact h.keys q hq
      · exact ⟨hk, hb⟩
theorem LogMap.len {w : World} {b : Nat} {T : List (List Nat × Value)} (h : LogMap w b T) : ∃ es clock, w.heap[b]? = some (.map es clock) ∧ es.size = T.length := by
  obtain ⟨es, clock, hh, hm⟩ := h.ex
  have := congrArg List.length hm
  exact ⟨es, clock, hh, by simpa using this⟩
theorem LogMap.below {w w' : World} {b : Nat} {T : List (List Nat × Value)} (h : LogMap w b T) (hB : Below w.heap.size w w') : LogMap w' b T := by
  obtain ⟨es, clock, hh, hm⟩ := h.ex
  exact ⟨⟨es, clock, (hB.block b (Array.getElem?_eq_some_iff.1 hh).1).trans hh, hm⟩, h.keys⟩
theorem LogMap.far {w w' : World} {b : Nat} {T : List (List Nat × Value)} {r : Option Nat} (h : LogMap w b T) (hg : w.grownBy w' r) (hne : some b ≠ r) : LogMap w' b T := by
  obtain ⟨es, clock, hh, hm⟩ := h.ex
  exact ⟨⟨es, clock, (hg.block b (Array.getElem?_eq_some_iff.1 hh).1 hne).trans hh, hm⟩, h.keys⟩
end Go.Proofs.YtcpjfdaacnkcnaaDoor
