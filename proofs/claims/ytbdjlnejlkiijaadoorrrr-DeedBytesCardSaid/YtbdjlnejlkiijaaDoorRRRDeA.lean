/-
  Payments: as numbers, and in memory.
-/
import Derived.Test.YtbdjlnejlkiijaaDoorRRRKit
import Derived.Deep.DeepCutAuto
import Derived.Deep.OwnRows
namespace Go.Proofs.YtbdjlnejlkiijaaDoorRRR
open Go.RowKit
set_option linter.unusedVariables false

theorem Blk.mk_ {w : World} {g : Nat} {t : TypeId} {cs : List Value} (h : w.heap.size = g) : Blk (w.alloc (.cells cs.toArray t)) g t cs := h ▸ Blk.new w t cs
def Word (x : Int) : Prop := 0 ≤ x ∧ x ≤ 18446744073709551615
theorem quiet_w {P : Program} {f : FuncId} {args : Array Value} {w : World} {n : Nat} {v : Value} (h : Calls P f args (w.drewN n) fun e w' => e = .returned v ∧ w.drewN n = w') : Calls P f args (w.drewN n) fun e w'' => e = .returned v ∧ ∃ m, w'' = w.drewN m :=
  Calls.quiet_of_same (h.mono fun e w' ⟨a, b⟩ => ⟨a, b.symm⟩)

def u8s (h : List Int) : List Value := h.map (.int .u8)
theorem u8s_length (h : List Int) : (u8s h).length = h.length := by simp [u8s]
/-- A payment. -/
structure Cnd where
  id : Int
  side : Int
  amt : Int
  h : List Int
  ex : Int
deriving DecidableEq
def z32 : List Int := List.replicate 32 0
def cnd0 : Cnd := ⟨0, 0, 0, z32, 0⟩
def Cnd.cells (c : Cnd) : List Value := [Value.int .u64 c.id, Value.int .i64 c.side, Value.int .u64 c.amt] ++ u8s c.h ++ [Value.int .u64 c.ex]
structure Cnd.Ok (c : Cnd) : Prop where
  id : Word c.id
  amt : Word c.amt
  h : c.h.length = 32
theorem cnd0_ok : cnd0.Ok := ⟨⟨by decide, by decide⟩, ⟨by decide, by decide⟩, rfl⟩
section
variable {c : Cnd}
theorem Cnd.Ok.len (h : c.Ok) : c.cells.length = 36 := by simp [Cnd.cells, u8s_length, h.h]
theorem Cnd.Ok.size (h : c.Ok) : c.cells.toArray.size = 36 := by simpa using h.len
theorem Cnd.cells_mem (c : Cnd) : ∀ v ∈ c.cells, ∃ k n, v = .int k n := by
  intro v hv
  simp only [Cnd.cells, List.mem_append, List.mem_cons, List.not_mem_nil, or_false, u8s, List.mem_map] at hv
  rcases hv with ((rfl | rfl | rfl) | ⟨x, _, rfl⟩) | rfl <;> exact ⟨_, _, rfl⟩
theorem Cnd.one (c : Cnd) : ∀ v ∈ c.cells, v.oneCell' = true := fun v hv => by obtain ⟨k, n, rfl⟩ := c.cells_mem v hv; rfl
theorem Cnd.all_one (c : Cnd) : c.cells.toArray.all (·.oneCell') = true := by
  rw [Array.all_eq_true_iff_forall_mem]
  intro v hv
  exact c.one v (by simpa using hv)
theorem Cnd.c0 (c : Cnd) : c.cells[0]? = some (.int .u64 c.id) := rfl
theorem Cnd.c1 (c : Cnd) : c.cells[1]? = some (.int .i64 c.side) := rfl
theorem Cnd.c2 (c : Cnd) : c.cells[2]? = some (.int .u64 c.amt) := rfl
theorem Cnd.Ok.c35 (h : c.Ok) : c.cells[35]? = some (.int .u64 c.ex) := by
  unfold Cnd.cells
  rw [List.getElem?_append_right (by simp [u8s_length, h.h])]
  simp [u8s_length, h.h]
end
theorem info60 : (Tryd.prog.info? 47).map (·.size) = some 36 := by kernel_rfl
theorem info53 : (Tryd.prog.info? 30).map (·.size) = some 36 := by kernel_rfl
theorem info51 : (Tryd.prog.info? 28).map (·.size) = some 32 := by kernel_rfl
theorem info58 : (Tryd.prog.info? 45).map (·.size) = some 32 := by kernel_rfl
/-- The cells of a fresh payment. -/
def cz : Array Value := #[.int .u64 0, .int .i64 0, .int .u64 0, .int .u8 0, .int .u8 0, .int .u8 0, .int .u8 0, .int .u8 0, .int .u8 0, .int .u8 0, .int .u8 0, .int .u8 0, .int .u8 0, .int .u8 0, .int .u8 0, .int .u8 0, .int .u8 0, .int .u8 0, .int .u8 0, .int .u8 0, .int .u8 0, .int .u8 0, .int .u8 0, .int .u8 0, .int .u8 0, .int .u8 0, .int .u8 0, .int .u8 0, .int .u8 0, .int .u8 0, .int .u8 0, .int .u8 0, .int .u8 0, .int .u8 0, .int .u8 0, .int .u64 0]

/-- Payments that lie behind one another. -/
structure CRow (w : World) (A : Option Addr) (cs : List Cnd) : Prop where
  at_ : cs = [] ∨ ∃ b o, A = some ⟨b, o, none⟩ ∧ b < w.heap.size ∧ ∀ i, i < cs.length → w.rangeAt b (o + i * 36) (cs.getD i cnd0).cells
  ok : ∀ c ∈ cs, c.Ok
theorem range_below {w w' : World} {b o : Nat} {cs : List Value} {B : Nat} (h : w.rangeAt b o cs) (hB : Below B w w') (hb : b < B) : w'.rangeAt b o cs := fun j v hv => (hB.cell (p := ⟨b, o + j, none⟩) hb).trans (h j v hv)
theorem CRow.below {w w' : World} {A : Option Addr} {cs : List Cnd} (h : CRow w A cs) (hB : Below w.heap.size w w') : CRow w' A cs := by
  refine ⟨?_, h.ok⟩
  rcases h.at_ with h1 | ⟨b, o, ha, hb, hx⟩
  · exact .inl h1
  · exact .inr ⟨b, o, ha, Nat.lt_of_lt_of_le hb hB.size, fun i hi => range_below (hx i hi) hB hb⟩
theorem CRow.nil (w : World) (A : Option Addr) : CRow w A [] := ⟨.inl rfl, by simp⟩
theorem getD_mem {cs : List Cnd} {i : Nat} (h : i < cs.length) : cs.getD i cnd0 ∈ cs := by
  rw [show cs.getD i cnd0 = cs[i] by simp [List.getD, h]]
  exact List.getElem_mem h
/-- One of them. -/
theorem CRow.get {w : World} {A : Option Addr} {cs : List Cnd} (h : CRow w A cs) {i : Nat} (hi : i < cs.length) : ∃ b o c, A = some ⟨b, o, none⟩ ∧ b < w.heap.size ∧ cs.getD i cnd0 = c ∧ w.rangeAt b (o + i * 36) c.cells ∧ c.Ok := by
  rcases h.at_ with h1 | ⟨b, o, ha, hb, hx⟩
  · rw [h1] at hi; simp at hi
  · exact ⟨b, o, _, ha, hb, rfl, hx i hi, h.ok _ (getD_mem hi)⟩
theorem drop_cnd (cs : List Cnd) (k : Nat) (hk : k < cs.length) : cs.drop k = cs.getD k cnd0 :: cs.drop (k + 1) := by
  rw [show cs.getD k cnd0 = cs[k] by simp [List.getD, hk]]
  exact List.drop_eq_getElem_cons hk
theorem Cnd.Ok.range (c : Cnd) (hok : c.Ok) {w : World} {b o : Nat} (h : w.rangeAt b o c.cells) : w.rangeAt b (o + 3) (u8s c.h) := fun j v hv => by
  have hj : j < 32 := by
    have := (List.getElem?_eq_some_iff.1 hv).1
    rw [u8s_length, hok.h] at this
    exact this
  have := h (3 + j) v (by
    unfold Cnd.cells
    rw [List.append_assoc, List.getElem?_append_right (by simp), List.getElem?_append_left (by simp [u8s_length, hok.h]; omega)]
    simpa using hv)
  rwa [← Nat.add_assoc] at this

end Go.Proofs.YtbdjlnejlkiijaaDoorRRR
