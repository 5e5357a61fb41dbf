/-
  Payments: as numbers, and in memory.
-/
import Derived.Test.YtkiifjkcpangfaaKit
import Derived.Test.YtkiifjkcpangfaaRow
import Derived.Test.YtkiifjkcpangfaaFlat
import Derived.Deep.OwnRows
namespace Go.Proofs.Ytkiifjkcpangfaa
open Go.RowKit
set_option linter.unusedVariables false

theorem quiet_w {P : Program} {f : FuncId} {args : Array Value} {w : World} {n : Nat} {v : Value} (h : Calls P f args (w.drewN n) fun e w' => e = .returned v ∧ w.drewN n = w') : Calls P f args (w.drewN n) fun e w'' => e = .returned v ∧ ∃ m, w'' = w.drewN m :=
  Calls.quiet_of_same (h.mono fun e w' ⟨a, b⟩ => ⟨a, b.symm⟩)

def u8s (h : List Int) : List Value := h.map (.int .u8)
theorem u8s_length (h : List Int) : (u8s h).length = h.length := by simp [u8s]
/-- A payment. -/
structure Cnd where
  id : Int
  side : Int
  amt : Int
  h : List Int
  ex : Int
deriving DecidableEq
def z32 : List Int := List.replicate 32 0
def cnd0 : Cnd := ⟨0, 0, 0, z32, 0⟩
def Cnd.cells (c : Cnd) : List Value := [Value.int .u64 c.id, Value.int .i64 c.side, Value.int .u64 c.amt] ++ u8s c.h ++ [Value.int .u64 c.ex]
structure Cnd.Ok (c : Cnd) : Prop where
  id : Word c.id
  amt : Word c.amt
  h : c.h.length = 32
theorem cnd0_ok : cnd0.Ok := ⟨⟨by decide, by decide⟩, ⟨by decide, by decide⟩, rfl⟩
section
variable {c : Cnd}
theorem Cnd.Ok.len (h : c.Ok) : c.cells.length = 36 := by simp [Cnd.cells, u8s_length, h.h]
theorem Cnd.Ok.size (h : c.Ok) : c.cells.toArray.size = 36 := by simpa using h.len
theorem Cnd.cells_mem (c : Cnd) : ∀ v ∈ c.cells, ∃ k n, v = .int k n := by
  intro v hv
  simp only [Cnd.cells, List.mem_append, List.mem_cons, List.not_mem_nil, or_false, u8s, List.mem_map] at hv
  rcases hv with ((rfl | rfl | rfl) | ⟨x, _, rfl⟩) | rfl <;> exact ⟨_, _, rfl⟩
theorem Cnd.one (c : Cnd) : ∀ v ∈ c.cells, v.oneCell' = true := fun v hv => by obtain ⟨k, n, rfl⟩ := c.cells_mem v hv; rfl
theorem Cnd.all_one (c : Cnd) : c.cells.toArray.all (·.oneCell') = true := by
  rw [Array.all_eq_true_iff_forall_mem]
  intro v hv
  exact c.one v (by simpa using hv)
theorem Cnd.c0 (c : Cnd) : c.cells[0]? = some (.int .u64 c.id) := rfl
theorem Cnd.c1 (c : Cnd) : c.cells[1]? = some (.int .i64 c.side) := rfl
theorem Cnd.c2 (c : Cnd) : c.cells[2]? = some (.int .u64 c.amt) := rfl
theorem Cnd.Ok.c35 (h : c.Ok) : c.cells[35]? = some (.int .u64 c.ex) := by
  unfold Cnd.cells
  rw [List.getElem?_append_right (by simp [u8s_length, h.h])]
  simp [u8s_length, h.h]
end
theorem info60 : (Try.prog.info? 60).map (·.size) = some 36 := by kernel_rfl
theorem info53 : (Try.prog.info? 53).map (·.size) = some 36 := by kernel_rfl
theorem info51 : (Try.prog.info? 51).map (·.size) = some 32 := by kernel_rfl
theorem info58 : (Try.prog.info? 58).map (·.size) = some 32 := by kernel_rfl
/-- The cells of a fresh payment. -/
def cz : Array Value := #[.int .u64 0, .int .i64 0, .int .u64 0, .int .u8 0, .int .u8 0, .int .u8 0, .int .u8 0, .int .u8 0, .int .u8 0, .int .u8 0, .int .u8 0, .int .u8 0, .int .u8 0, .int .u8 0, .int .u8 0, .int .u8 0, .int .u8 0, .int .u8 0, .int .u8 0, .int .u8 0, .int .u8 0, .int .u8 0, .int .u8 0, .int .u8 0, .int .u8 0, .int .u8 0, .int .u8 0, .int .u8 0, .int .u8 0, .int .u8 0, .int .u8 0, .int .u8 0, .int .u8 0, .int .u8 0, .int .u8 0, .int .u64 0]

/-- Payments that lie behind one another. -/
structure CRow (w : World) (A : Option Addr) (cs : List Cnd) : Prop where
  at_ : cs = [] ∨ ∃ b o, A = some ⟨b, o, none⟩ ∧ b < w.heap.size ∧ ∀ i, i < cs.length → w.rangeAt b (o + i * 36) (cs.getD i cnd0).cells
  ok : ∀ c ∈ cs, c.Ok
theorem range_below {w w' : World} {b o : Nat} {cs : List Value} {B : Nat} (h : w.rangeAt b o cs) (hB : Below B w w') (hb : b < B) : w'.rangeAt b o cs := fun j v hv => (hB.cell (p := ⟨b, o + j, none⟩) hb).trans (h j v hv)
theorem CRow.below {w w' : World} {A : Option Addr} {cs : List Cnd} (h : CRow w A cs) (hB : Below w.heap.size w w') : CRow w' A cs := by
  refine ⟨?_, h.ok⟩
  rcases h.at_ with h1 | ⟨b, o, ha, hb, hx⟩
  · exact .inl h1
  · exact .inr ⟨b, o, ha, Nat.lt_of_lt_of_le hb hB.size, fun i hi => range_below (hx i hi) hB hb⟩
theorem CRow.nil (w : World) (A : Option Addr) : CRow w A [] := ⟨.inl rfl, by simp⟩
theorem getD_mem {cs : List Cnd} {i : Nat} (h : i < cs.length) : cs.getD i cnd0 ∈ cs := by
  rw [show cs.getD i cnd0 = cs[i] by simp [List.getD, h]]
  exact List.getElem_mem h
/-- One of them. -/
theorem CRow.get {w : World} {A : Option Addr} {cs : List Cnd} (h : CRow w A cs) {i : Nat} (hi : i < cs.length) : ∃ b o c, A = some ⟨b, o, none⟩ ∧ b < w.heap.size ∧ cs.getD i cnd0 = c ∧ w.rangeAt b (o + i * 36) c.cells ∧ c.Ok := by
  rcases h.at_ with h1 | ⟨b, o, ha, hb, hx⟩
  · rw [h1] at hi; simp at hi
  · exact ⟨b, o, _, ha, hb, rfl, hx i hi, h.ok _ (getD_mem hi)⟩
theorem drop_cnd (cs : List Cnd) (k : Nat) (hk : k < cs.length) : cs.drop k = cs.getD k cnd0 :: cs.drop (k + 1) := by
  rw [show cs.getD k cnd0 = cs[k] by simp [List.getD, hk]]
  exact List.drop_eq_getElem_cons hk

/-- What a side's payments come to, from a sum on. -/
def heldGo (side : Int) (s : Int) : List Cnd → Int × Int
  | [] => (s, 0)
  | c :: r => if c.side = side then (if addE s c.amt = 0 then heldGo side (addV s c.amt) r else (0, 11)) else heldGo side s r
def heldV (side : Int) (cs : List Cnd) : Int := (heldGo side 0 cs).1
def heldE (side : Int) (cs : List Cnd) : Int := (heldGo side 0 cs).2
theorem held_step {side s : Int} {cs : List Cnd} {k : Nat} {c : Cnd} (h : heldGo side 0 cs = heldGo side s (cs.drop k)) (hk : k < cs.length) (hc : cs.getD k cnd0 = c) :
    (c.side ≠ side → heldGo side 0 cs = heldGo side s (cs.drop (k + 1))) ∧ (c.side = side → (addE s c.amt = 0 → heldGo side 0 cs = heldGo side (addV s c.amt) (cs.drop (k + 1))) ∧ (addE s c.amt ≠ 0 → heldV side cs = 0 ∧ heldE side cs = addE s c.amt)) := by
  rw [drop_cnd cs k hk, hc] at h
  refine ⟨fun hs => ?_, fun hs => ⟨fun h0 => ?_, fun h0 => ?_⟩⟩
  · rw [h, heldGo, if_neg hs]
  · rw [h, heldGo, if_pos hs, if_pos h0]
  · rw [heldGo, if_pos hs, if_neg h0] at h
    rw [heldV, heldE, h]
    rcases addE_cases s c.amt with h1 | h1
    · exact absurd h1 h0
    · exact ⟨rfl, h1.symm⟩
theorem held_end {side s : Int} {cs : List Cnd} {k : Nat} (h : heldGo side 0 cs = heldGo side s (cs.drop k)) (hk : cs.length ≤ k) : heldV side cs = s ∧ heldE side cs = 0 := by
  rw [List.drop_eq_nil_of_le hk, heldGo] at h
  rw [heldV, heldE, h]
  exact ⟨rfl, rfl⟩
theorem heldGo_word (side : Int) : ∀ (cs : List Cnd) (s : Int), Word s → (∀ c ∈ cs, c.Ok) → Word (heldGo side s cs).1
  | [], s, hs, _ => hs
  | c :: r, s, hs, h => by
    rw [heldGo]
    split
    · split
      · exact heldGo_word side r _ (addV_word hs (h c (by simp)).amt) (fun d hd => h d (by simp [hd]))
      · exact ⟨by decide, by decide⟩
    · exact heldGo_word side r _ hs (fun d hd => h d (by simp [hd]))
theorem heldV_word (side : Int) (cs : List Cnd) (h : ∀ c ∈ cs, c.Ok) : Word (heldV side cs) := heldGo_word side cs 0 ⟨by decide, by decide⟩ h
theorem heldGo_e (side : Int) : ∀ (cs : List Cnd) (s : Int), (heldGo side s cs).2 = 0 ∨ (heldGo side s cs).2 = 11
  | [], s => .inl rfl
  | c :: r, s => by
    rw [heldGo]
    split
    · split
      · exact heldGo_e side r _
      · exact .inr rfl
    · exact heldGo_e side r _
theorem heldE_cases (side : Int) (cs : List Cnd) : heldE side cs = 0 ∨ heldE side cs = 11 := heldGo_e side cs 0

/-- Where a payment is: from place k on; -1: it isn't there. -/
def findGo (id : Int) (k : Nat) : List Cnd → Int
  | [] => -1
  | c :: r => if c.id = id then (k : Int) else findGo id (k + 1) r
def findV (id : Int) (cs : List Cnd) : Int := findGo id 0 cs
theorem find_step {id : Int} {cs : List Cnd} {k : Nat} {c : Cnd} (h : findV id cs = findGo id k (cs.drop k)) (hk : k < cs.length) (hc : cs.getD k cnd0 = c) :
    (c.id = id → findV id cs = k) ∧ (c.id ≠ id → findV id cs = findGo id (k + 1) (cs.drop (k + 1))) := by
  rw [drop_cnd cs k hk, hc] at h
  exact ⟨fun h1 => by rw [h, findGo, if_pos h1], fun h1 => by rw [h, findGo, if_neg h1]⟩
theorem find_end {id : Int} {cs : List Cnd} {k : Nat} (h : findV id cs = findGo id k (cs.drop k)) (hk : cs.length ≤ k) : findV id cs = -1 := by
  rw [List.drop_eq_nil_of_le hk, findGo] at h
  exact h
theorem findGo_at (id : Int) : ∀ (cs : List Cnd) (k : Nat), findGo id k cs = -1 ∧ (∀ c ∈ cs, c.id ≠ id) ∨ ∃ j, j < cs.length ∧ findGo id k cs = ((k + j : Nat) : Int) ∧ (cs.getD j cnd0).id = id ∧ ∀ i, i < j → (cs.getD i cnd0).id ≠ id
  | [], k => .inl ⟨rfl, by simp⟩
  | c :: r, k => by
    by_cases h : c.id = id
    · exact .inr ⟨0, by simp, by rw [findGo, if_pos h]; simp, by simpa using h, by omega⟩
    · rw [findGo, if_neg h]
      rcases findGo_at id r (k + 1) with ⟨h1, h2⟩ | ⟨j, h1, h2, h3, h4⟩
      · exact .inl ⟨h1, fun d hd => by rcases List.mem_cons.1 hd with rfl | hd; exact h; exact h2 d hd⟩
      · refine .inr ⟨j + 1, by simpa using h1, by rw [h2]; congr 1; omega, by simpa using h3, fun i hi => ?_⟩
        cases i with
        | zero => simpa using h
        | succ i => simpa using h4 i (by omega)
theorem findV_at (id : Int) (cs : List Cnd) : findV id cs = -1 ∧ (∀ c ∈ cs, c.id ≠ id) ∨ ∃ j, j < cs.length ∧ findV id cs = (j : Int) ∧ (cs.getD j cnd0).id = id ∧ ∀ i, i < j → (cs.getD i cnd0).id ≠ id := by
  have := findGo_at id cs 0
  simpa [findV] using this
end Go.Proofs.Ytkiifjkcpangfaa
