/-
  The document's Reach, in numbers: rounds; what is told at the end.
-/
import Derived.Test.YtnnimjaigciedaaWebRh
namespace Go.Proofs.Ytnnimjaigciedaa
open Go.RowKit
set_option linter.unusedVariables false

/-- Behind r rounds. -/
structure Rd1 (es : List Ed) (amt node : Int) (sl : Nat) (bs : List Bool) (r : Nat) : Prop where
  len : bs.length = sl
  rch : ∀ x, inB bs x → Rch es amt node x
  here : inB bs node
  cnt : Shut es amt bs ∨ r + 1 ≤ cnt bs
/-- In a round that began with B0, behind n nodes. -/
structure Rd2 (es : List Ed) (amt node : Int) (sl : Nat) (B0 bs : List Bool) (n : Nat) : Prop where
  len : bs.length = sl
  len0 : B0.length = sl
  rch : ∀ x, inB bs x → Rch es amt node x
  here : inB bs node
  mono : ∀ i : Nat, B0.getD i false = true → bs.getD i false = true
  done : ∀ i : Nat, i < n → B0.getD i false = true → ∀ y, Nx es amt (i : Int) y → inB bs y
  shut : Shut es amt B0 → bs = B0
section
variable {es : List Ed} {amt node : Int} {sl r n : Nat} {B0 bs : List Bool}
theorem Rd1.begin (h : Rd1 es amt node sl bs r) : Rd2 es amt node sl bs bs 0 := ⟨h.len, h.len, h.rch, h.here, fun _ h => h, fun i hi => by omega, fun _ => rfl⟩
theorem Rd2.finish (h : Rd2 es amt node sl B0 bs sl) (hg : AllGood sl es) (h0 : Shut es amt B0 ∨ r + 1 ≤ cnt B0) : Rd1 es amt node sl bs (r + 1) := by
  refine ⟨h.len, h.rch, h.here, ?_⟩
  rcases Classical.em (Shut es amt B0) with hs | hs
  · exact .inl (by rw [h.shut hs]; exact hs)
  · right
    have h1 : r + 1 ≤ cnt B0 := h0.resolve_left hs
    have h2 : ∃ i : Nat, B0.getD i false = false ∧ bs.getD i false = true := by
      have : ∃ x y, inB B0 x ∧ Nx es amt x y ∧ ¬ inB B0 y := by
        apply Classical.byContradiction
        intro hn
        apply hs
        intro x y hx hy
        apply Classical.byContradiction
        intro h9
        exact hn ⟨x, y, hx, hy, h9⟩
      obtain ⟨x, y, hx, hy, hny⟩ := this
      have hxn : ((x.toNat : Nat) : Int) = x := by have := hx.1; omega
      have hxs : x.toNat < sl := by
        rcases Nat.lt_or_ge x.toNat sl with h3 | h3
        · exact h3
        · have h4 := hx.2
          rw [List.getD_eq_getElem?_getD, List.getElem?_eq_none (by rw [h.len0]; exact h3)] at h4
          cases h4
      have h5 := h.done x.toNat hxs hx.2 y (by rw [hxn]; exact hy)
      have hyr := nx_range hg hy
      refine ⟨y.toNat, ?_, h5.2⟩
      cases h6 : B0.getD y.toNat false with
      | false => rfl
      | true => exact absurd ⟨hyr.1, h6⟩ hny
    have := cnt_lt B0 bs (by rw [h.len, h.len0]) h.mono h2
    omega
theorem Rd1.all (h : Rd1 es amt node sl bs sl) : ∀ x, inB bs x ↔ Rch es amt node x := fun x => ⟨h.rch x, by
  have hs : Shut es amt bs := by
    rcases h.cnt with hs | hs
    · exact hs
    · have := cnt_le bs
      rw [h.len] at this
      omega
  exact shut_rch hs h.here x⟩
theorem Rd2.put {t : Nat} (h : Rd2 es amt node sl B0 bs n) (hn : bs.getD n false = true) (ht : Nx es amt (n : Int) (t : Int)) (htl : t < sl) : Rd2 es amt node sl B0 (bs.set t true) n where
  len := by rw [List.length_set]; exact h.len
  len0 := h.len0
  rch := fun x hx => by
    rcases (in_set bs t (by rw [h.len]; exact htl) x).1 hx with hx | rfl
    · exact h.rch x hx
    · exact .step (h.rch (n : Int) ((inB_nat bs n).2 hn)) ht
  here := (in_set bs t (by rw [h.len]; exact htl) node).2 (.inl h.here)
  mono := fun i hi => by
    have := (in_set bs t (by rw [h.len]; exact htl) (i : Int)).2 (.inl ((inB_nat bs i).2 (h.mono i hi)))
    exact (inB_nat _ i).1 this
  done := fun i hi hb y hy => (in_set bs t (by rw [h.len]; exact htl) y).2 (.inl (h.done i hi hb y hy))
  shut := fun hs => by
    have he := h.shut hs
    subst he
    have := hs (n : Int) (t : Int) ((inB_nat bs n).2 hn) ht
    exact set_same bs t ((inB_nat bs t).1 this)
theorem Rd2.next (h : Rd2 es amt node sl B0 bs n) (hs : bs.getD n false = true → ∀ y, Nx es amt (n : Int) y → inB bs y) : Rd2 es amt node sl B0 bs (n + 1) :=
  ⟨h.len, h.len0, h.rch, h.here, h.mono, fun i hi hb y hy => by
    rcases Nat.lt_or_eq_of_le (Nat.le_of_lt_succ hi) with h1 | rfl
    · exact h.done i h1 hb y hy
    · exact hs (h.mono i hb) y hy, h.shut⟩
end

/-- Which of the first n are in, rising. -/
def outL (bs : List Bool) : Nat → List Int
  | 0 => []
  | n + 1 => outL bs n ++ (if bs.getD n false = true then [(n : Int)] else [])
theorem outL_mem (bs : List Bool) : ∀ n x, x ∈ outL bs n ↔ (inB bs x ∧ x < (n : Int)) := by
  intro n
  induction n with
  | zero => intro x; simp [outL, inB]; intro h _; omega
  | succ n ih =>
    intro x
    unfold outL
    rw [List.mem_append, ih]
    constructor
    · rintro (⟨h1, h2⟩ | h)
      · exact ⟨h1, by omega⟩
      · split at h
        · rename_i hb
          simp at h
          subst h
          exact ⟨(inB_nat bs n).2 hb, by omega⟩
        · simp at h
    · rintro ⟨h1, h2⟩
      by_cases e : x = (n : Int)
      · right
        subst e
        rw [if_pos ((inB_nat bs n).1 h1)]
        simp
      · exact .inl ⟨h1, by omega⟩
theorem outL_rises (bs : List Bool) : ∀ n, (outL bs n).Pairwise (· < ·) := by
  intro n
  induction n with
  | zero => exact List.Pairwise.nil
  | succ n ih =>
    unfold outL
    rw [List.pairwise_append]
    refine ⟨ih, ?_, fun a ha b hb => ?_⟩
    · split <;> simp
    · split at hb
      · simp at hb
        subst hb
        exact ((outL_mem bs n a).1 ha).2
      · simp at hb
theorem outL_length (bs : List Bool) : ∀ n, (outL bs n).length ≤ n := by
  intro n
  induction n with
  | zero => exact Nat.le_refl _
  | succ n ih =>
    unfold outL
    rw [List.length_append]
    split
    · simp; omega
    · simp; omega
theorem Rd1.reach {es : List Ed} {amt node : Int} {sl : Nat} {bs : List Bool} (h : Rd1 es amt node sl bs sl) (hg : AllGood sl es) (hn : 0 ≤ node ∧ node < (sl : Int)) : ReachP es amt node (outL bs sl) :=
  ⟨outL_rises bs sl, fun x => by
    rw [outL_mem, h.all x]
    exact ⟨fun k => k.1, fun k => ⟨k, (rch_range hg hn k).2⟩⟩⟩

def bo (l : List Bool) : List Value := l.map (.bool ·)
theorem bo_length (l : List Bool) : (bo l).length = l.length := by simp [bo]
theorem bo_set (l : List Bool) (i : Nat) : (bo l).set i (.bool true) = bo (l.set i true) := by simp [bo]
theorem bo_at (l : List Bool) (i : Nat) (h : i < l.length) : (bo l)[i]? = some (.bool (l.getD i false)) := by simp [bo, List.getD, h]
theorem own_set {w : World} {base size n g o : Nat} {e t : TypeId} {v u : Value} {xs cs : List Value} (h : w.ownsRow base e size v n xs) (hb : Blk w g t cs) (hne : t ≠ e) : (w.setCell ⟨g, o, none⟩ u).ownsRow base e size v n xs := by
  refine ⟨h.1, ?_⟩
  rcases h.2 with h1 | ⟨g', cap, cur, hv, hbg, hgg, rest⟩
  · exact .inl h1
  · have hB : Blk w g' e cur.toList := by unfold Blk; simpa using hgg
    exact .inr ⟨g', cap, cur, hv, hbg, by simpa [Blk] using hB.far (p := ⟨g, o, none⟩) (fun e9 => Blk.ne_ hb hB hne e9.symm) u, rest⟩
theorem info4b : (Try.prog.info? 4).map (fun i => (i.zero, i.size, i.bytes)) = some (some (.bool false), 1, 1) := by kernel_rfl
end Go.Proofs.Ytnnimjaigciedaa
