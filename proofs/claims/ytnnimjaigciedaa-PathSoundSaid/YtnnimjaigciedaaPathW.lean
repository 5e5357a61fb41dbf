/-
  A map of the nodes that were seen (map[int]bool), as a list of its keys: look-up of a new one, update.
-/
import Derived.Test.YtnnimjaigciedaaPathV
import Derived.Maps.Own
import Derived.ChangeMaps
namespace Go.Proofs.Ytnnimjaigciedaa
open Go.RowKit
set_option linter.unusedVariables false

theorem under99 : Try.prog.underlying 99 = some (.map 3 4) := by kernel_rfl
theorem keyed3 : Maps.Keyed Try.prog 3 := Maps.int_keyed Try.underlying3
def I64 (x : Int) : Prop := -9223372036854775808 ≤ x ∧ x ≤ 9223372036854775807
theorem key_int (x : Int) (h : I64 x) : keyOf Try.prog 3 (.int .i64 x) = some (.int .i64 x) := by
  refine Maps.keyOf_int_mk Try.underlying3 ?_
  obtain ⟨h1, h2⟩ := h
  simp [Lit.wf, IntKind.min, IntKind.max, IntKind.signed, IntKind.bits]; omega
/-- The map's keys. -/
structure SMap (w : World) (b : Nat) (T : List Int) : Prop where
  ex : ∃ es clock, w.heap[b]? = some (.map es clock) ∧ es.toList.map (fun e => e.key) = ins T
  keys : ∀ x ∈ T, I64 x
theorem SMap.new (w : World) : SMap (w.alloc (.map #[] 0)) w.heap.size [] := ⟨⟨#[], 0, heap_alloc_last w _, rfl⟩, fun x h => by simp at h⟩
theorem SMap.lt {w : World} {b : Nat} {T : List Int} (h : SMap w b T) : b < w.heap.size := by
  obtain ⟨es, clock, hh, _⟩ := h.ex
  exact (Array.getElem?_eq_some_iff.1 hh).1
theorem SMap.keysOf {w : World} {b : Nat} {T : List Int} (h : SMap w b T) {es : Array MapEntry} (hm : es.toList.map (fun e => e.key) = ins T) : ∀ e ∈ es.toList, ∃ l, keyOf Try.prog 3 e.key = some l := by
  intro e he
  have h1 : e.key ∈ es.toList.map (fun e => e.key) := List.mem_map.2 ⟨e, he, rfl⟩
  rw [hm] at h1
  obtain ⟨x, hx, hxe⟩ := List.mem_map.1 h1
  exact ⟨_, by rw [← hxe]; exact key_int x (h.keys x hx)⟩
theorem SMap.miss {w : World} {b : Nat} {T : List Int} (h : SMap w b T) (x : Int) (hx : I64 x) (hn : x ∉ T) : (Instr.lookup 99 (.map (some b)) (.int .i64 x) false).run Try.prog w = .ok (.bool false) w := by
  obtain ⟨es, clock, hh, hm⟩ := h.ex
  rcases keyed3.find w (key_int x hx) es.toList (h.keysOf hm) with ⟨h1, h2⟩ | ⟨j, e, h1, h2, h3⟩
  · have hz : (zeroValue 4).run Try.prog w = .ok (.bool false) w := by kernel_rfl
    simp [Instr.lookup, run_underlying under99, MapKept.run_getObj_map hh, keyed3.check w _ (key_int x hx), h1, Result.andThen, hz]
  · exfalso
    have h4 : e.key ∈ es.toList.map (fun e => e.key) := List.mem_map.2 ⟨e, List.mem_of_getElem? h2, rfl⟩
    rw [hm, h3] at h4
    obtain ⟨y, hy, he⟩ := List.mem_map.1 h4
    injection he with _ he
    exact hn (he ▸ hy)
theorem set_blockS {w : World} {b : Nat} {es es' : Array MapEntry} {clock clock' : Nat} (hh : w.heap[b]? = some (.map es clock)) : (ChangeMaps.setBlock w b (.map es' clock')).heap[b]? = some (.map es' clock') ∧ w.grownBy (ChangeMaps.setBlock w b (.map es' clock')) (some b) :=
  ⟨ChangeMaps.heap_setBlock_same hh _, rfl, rfl, rfl, by simp [ChangeMaps.setBlock], fun i _ hi => ChangeMaps.heap_setBlock_other hh _ (fun e => hi (by rw [e]))⟩
theorem SMap.put {w : World} {b : Nat} {T : List Int} (h : SMap w b T) (x : Int) (hx : I64 x) (hn : x ∉ T) :
    ∃ w', (Instr.mapUpdate 99 (.map (some b)) (.int .i64 x) (.bool true)).run Try.prog w = .ok () w' ∧ SMap w' b (T ++ [x]) ∧ w.grownBy w' (some b) := by
  obtain ⟨es, clock, hh, hm⟩ := h.ex
  rcases keyed3.find w (key_int x hx) es.toList (h.keysOf hm) with ⟨h1, h2⟩ | ⟨j, e, h1, h2, h3⟩
  · obtain ⟨s1, s2⟩ := set_blockS (es' := es.push ⟨.int .i64 x, .bool true, clock⟩) (clock' := clock + 1) hh
    refine ⟨_, by simp [Instr.mapUpdate, run_underlying under99, MapKept.run_getObj_map hh, keyed3.check w false (key_int x hx), h1, MapKept.run_setObj_map _ hh, Result.andThen, ChangeMaps.setBlock], ⟨⟨_, _, s1, by simp [hm, ins]⟩, ?_⟩, s2⟩
    intro p hp
    rcases List.mem_append.1 hp with hp | hp
    · exact h.keys p hp
    · simp at hp
      subst hp
      exact hx
  · exfalso
    have h4 : e.key ∈ es.toList.map (fun e => e.key) := List.mem_map.2 ⟨e, List.mem_of_getElem? h2, rfl⟩
    rw [hm, h3] at h4
    obtain ⟨y, hy, he⟩ := List.mem_map.1 h4
    injection he with _ he
    exact hn (he ▸ hy)
theorem SMap.below {w w' : World} {b : Nat} {T : List Int} (h : SMap w b T) (hB : Below w.heap.size w w') : SMap w' b T := by
  obtain ⟨es, clock, hh, hm⟩ := h.ex
  exact ⟨⟨es, clock, (hB.block b (Array.getElem?_eq_some_iff.1 hh).1).trans hh, hm⟩, h.keys⟩
theorem SMap.ne {w : World} {b g t : Nat} {T : List Int} {cs : List Value} (h : SMap w b T) (hb : Blk w g t cs) : g ≠ b := by
  rintro rfl
  obtain ⟨es, clock, hh, _⟩ := h.ex
  unfold Blk at hb
  rw [hh] at hb
  cases hb
theorem SMap.own_ne {w : World} {b base e size n : Nat} {T : List Int} {v : Value} {xs : List Value} (h : SMap w b T) (ho : w.ownsRow base e size v n xs) : v.ownBlock ≠ some b := by
  rcases ho.2 with ⟨rfl, _⟩ | ⟨g, cap, cur, rfl, _, hg, _⟩
  · simp [Value.ownBlock]
  · intro he
    simp [Value.ownBlock] at he
    subst he
    obtain ⟨es, clock, hh, _⟩ := h.ex
    rw [hh] at hg
    cases hg
/-- A row of one's own stands, whatever is put into the map. -/
theorem own_smap {w w' : World} {b base e size n : Nat} {T : List Int} {v : Value} {xs : List Value} (ho : w.ownsRow base e size v n xs) (h : SMap w b T) (hg : w.grownBy w' (some b)) : w'.ownsRow base e size v n xs := by
  have hne := h.own_ne ho
  refine ⟨ho.1, ?_⟩
  rcases ho.2 with ⟨h1, h2⟩ | ⟨g, cap, cur, hv, hb, hgc, rest⟩
  · exact .inl ⟨h1, h2⟩
  · refine .inr ⟨g, cap, cur, hv, hb, ?_, rest⟩
    refine (hg.block g (Array.getElem?_eq_some_iff.1 hgc).1 ?_).trans hgc
    subst hv
    exact hne
theorem rt_smap {w w' : World} {b base : Nat} {T : List Int} {amt : Int} {r : Rt} (hr : RtOk w base amt r) (h : SMap w b T) (hg : w.grownBy w' (some b)) : RtOk w' base amt r :=
  ⟨own_smap hr.1 h hg, own_smap hr.2.1 h hg, own_smap hr.2.2 h hg⟩
theorem blk_smap {w w' : World} {b g t : Nat} {T : List Int} {cs : List Value} (hb : Blk w g t cs) (h : SMap w b T) (hg : w.grownBy w' (some b)) : Blk w' g t cs :=
  hb.grown hg (by intro e; injection e with e; exact h.ne hb e)
/-- Rows of channels stand, too: no map lies where they lie. -/
theorem edge_smap {w w' : World} {b : Nat} {T : List Int} {a : Option Addr} {es : List Ed} (hE : EdgeRow w a es) (h : SMap w b T) (hg : w.grownBy w' (some b)) : EdgeRow w' a es := by
  rcases hE with h0 | ⟨c, o, ha, hc, hE⟩
  · exact .inl h0
  · by_cases he : es = []
    · exact .inl he
    · refine .inr ⟨c, o, ha, by have := hg.size; omega, fun i hi j v hv => ?_⟩
      have h1 := hE i hi j v hv
      have hne : c ≠ b := by
        rintro rfl
        obtain ⟨m, clock, hh, _⟩ := h.ex
        simp [World.cell?, hh] at h1
      exact hg.cell h1 (by intro e; injection e with e; exact hne e)
theorem cell_smap {w w' : World} {b c o : Nat} {T : List Int} {v : Value} (h1 : w.cell? ⟨c, o, none⟩ = some v) (h : SMap w b T) (hg : w.grownBy w' (some b)) : w'.cell? ⟨c, o, none⟩ = some v := by
  have hne : c ≠ b := by
    rintro rfl
    obtain ⟨m, clock, hh, _⟩ := h.ex
    simp [World.cell?, hh] at h1
  exact hg.cell h1 (by intro e; injection e with e; exact hne e)
end Go.Proofs.Ytnnimjaigciedaa
