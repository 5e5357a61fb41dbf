/-
  The document's ring: Power (function 47), Rows (44): all sums of a ring, in rows of the call's own; nothing that was there is written.
-/
import Derived.Test.YtkonokjhpddbfaaDoorRngL
import Derived.Test.YtkonokjhpddbfaaDoorRngS
namespace Go.Proofs.YtkonokjhpddbfaaDoor
open Go.RowKit
set_option linter.unusedVariables false

theorem info22f : (Tryd.prog.info? 22).map (fun i => (i.zero, i.size, i.bytes)) = some (some (.slice none 0 0), 1, 24) := by kernel_rfl
theorem own_keepB {w w' : World} {base n size : Nat} {t : TypeId} {v : Value} {xs : List Value} (h : w.ownsRow base t size v n xs) (hB : Below w.heap.size w w') : w'.ownsRow base t size v n xs :=
  h.kept (row := none) ⟨hB.os, hB.tape, hB.output, hB.size, fun i hi _ => hB.block i hi⟩ (by cases v.ownBlock <;> simp)
theorem own_mono {w : World} {base b n size : Nat} {t : TypeId} {v : Value} {xs : List Value} (h : w.ownsRow base t size v n xs) (hb : b ≤ base) : w.ownsRow b t size v n xs := by
  refine ⟨h.1, ?_⟩
  rcases h.2 with h0 | ⟨g, cap, cur, h1, h2, h3⟩
  · exact .inl h0
  · exact .inr ⟨g, cap, cur, h1, Nat.le_trans hb h2, h3⟩
/-- The document's rows so far. -/
def OutAt (w : World) (base : Nat) (v : Value) (seed : List Nat) (tall k : Nat) : Prop :=
  ∃ ws : List Value, w.ownsRow base 22 1 v k ws ∧ ∀ i, i < k → ∃ u, ws[i]? = some u ∧ w.ownsRow base 29 32 u (pw (tall - i)) (w8 (rows (levN seed i) (pw (tall - i)))) ∧ u.ownBlock ≠ v.ownBlock
theorem OutAt.below {w w' : World} {base : Nat} {v : Value} {seed : List Nat} {tall k : Nat} (h : OutAt w base v seed tall k) (hB : Below w.heap.size w w') : OutAt w' base v seed tall k := by
  obtain ⟨ws, ho, hc⟩ := h
  exact ⟨ws, own_keepB ho hB, fun i hi => by obtain ⟨u, h1, h2, h3⟩ := hc i hi; exact ⟨u, h1, own_keepB h2 hB, h3⟩⟩
theorem OutAt.mono {w : World} {base b : Nat} {v : Value} {seed : List Nat} {tall k : Nat} (h : OutAt w base v seed tall k) (hb : b ≤ base) : OutAt w b v seed tall k := by
  obtain ⟨ws, ho, hc⟩ := h
  exact ⟨ws, own_mono ho hb, fun i hi => by obtain ⟨u, h1, h2, h3⟩ := hc i hi; exact ⟨u, h1, own_mono h2 hb, h3⟩⟩
theorem OutAt.lt {w : World} {base : Nat} {v : Value} {seed : List Nat} {tall k : Nat} (h : OutAt w base v seed tall k) : ∀ q, v.ownBlock = some q → base ≤ q ∧ q < w.heap.size := by
  obtain ⟨ws, ho, hc⟩ := h
  exact fun q hq => ho.lt q hq
theorem own_far {w w' : World} {base n size : Nat} {t : TypeId} {v : Value} {xs : List Value} {row : Option Nat} (h : w.ownsRow base t size v n xs) (hg : w.grownBy w' row) (hn : v.ownBlock ≠ row) : w'.ownsRow base t size v n xs :=
  h.kept hg (by rcases hv : v.ownBlock with _ | g
                · exact .inl rfl
                · exact .inr (fun he => hn (by rw [hv, he])))
theorem OutAt.push {w : World} {base : Nat} {v u : Value} {seed : List Nat} {tall k : Nat} (h : OutAt w base v seed tall k) (hk : k < 20) (hbase : base ≤ w.heap.size) (hone : u.oneCell' = true)
    (hu : w.ownsRow base 29 32 u (pw (tall - k)) (w8 (rows (levN seed k) (pw (tall - k))))) (hn : u.ownBlock ≠ v.ownBlock) :
    ∃ v' W, (∀ ty, (Builtin.append_ #[87, 87] ty #[v, .slice (some ⟨w.heap.size, 0, none⟩) 1 1]).run Tryd.prog (w.alloc (.cells #[u] 22)) = .ok v' W) ∧ OutAt W base v' seed tall (k + 1) ∧ W.ownsRow base 29 32 u (pw (tall - k)) (w8 (rows (levN seed k) (pw (tall - k)))) ∧ (w.alloc (.cells #[u] 22)).grownBy W v.ownBlock := by
  obtain ⟨j0, hj, hy0, hy1, hy2⟩ := info_parts info22f
  obtain ⟨ws, ho, hc⟩ := h
  have hB : Below w.heap.size w (w.alloc (.cells #[u] 22)) := (Below.refl _ _).alloc (Nat.le_refl _) _
  have hl := Blk.new w 22 [u]
  obtain ⟨v', W, hrun, hown, hgrow, _, hblk⟩ := run_append_own_at (P := Tryd.prog) (w.alloc (.cells #[u] 22)) base 87 0 22 j0 (.slice none 0 0) 1 24 Tryd.underlying87 hj hy0 hy1 hy2 rfl (by decide) v k ws (own_keepB ho hB) ⟨w.heap.size, 0, none⟩ 1 1 [u] rfl
    (fun j x hx => by rw [Go.WideShapes.add_plain, Nat.zero_add, hl.cell]; exact hx) (fun x hx => by simp only [List.mem_cons, List.not_mem_nil, or_false] at hx; rw [hx]; exact hone) (by unfold maxLen; omega) (by omega) (by simp; omega)
  have hws : ws.length = k := by have := ho.1; omega
  have keep : ∀ (x : Value) (m : Nat) (xs : List Value), w.ownsRow base 29 32 x m xs → x.ownBlock ≠ v.ownBlock → W.ownsRow base 29 32 x m xs ∧ x.ownBlock ≠ v'.ownBlock := by
    intro x m xs hx hne
    refine ⟨own_far (own_keepB hx hB) hgrow hne, ?_⟩
    rcases hblk with e | e
    · rw [e]; exact hne
    · rw [e]
      intro he
      have := ((own_keepB hx hB).lt _ he).2
      omega
  refine ⟨v', W, fun _ => hrun, ⟨ws ++ [u], hown, fun i hi => ?_⟩, (keep _ _ _ hu hn).1, hgrow⟩
  by_cases hik : i < k
  · obtain ⟨x, h1, h2, h3⟩ := hc i hik
    refine ⟨x, ?_, keep _ _ _ h2 h3⟩
    rw [List.getElem?_append_left (by omega)]
    exact h1
  · obtain rfl : i = k := by omega
    refine ⟨u, ?_, keep _ _ _ hu hn⟩
    rw [List.getElem?_append_right (by omega), hws, Nat.sub_self]
    rfl
theorem own_row {w : World} {base n : Nat} {v : Value} {f : Nat → List Nat} (hf : ∀ a, (f a).length = 32) (hn : 0 < n) (h : w.ownsRow base 29 32 v n (w8 (rows f n))) : ∃ g c, v = .slice (some ⟨g, 0, none⟩) n c ∧ base ≤ g ∧ g < w.heap.size ∧ n ≤ c ∧ c ≤ 9223372036854775807 ∧ ∀ i, i < n → w.rangeAt g (i * 32) (w8 (f i)) := by
  rcases h.2 with ⟨_, h0⟩ | ⟨g, cap, cur, hv, hb, hg, hn1, hc, _⟩
  · omega
  · have hw := wayR_own hf h
    obtain ⟨A, c, hv2, h3⟩ := hw
    rw [hv] at hv2
    injection hv2 with e1 e2 e3
    rcases h3 with h3 | ⟨g', o, hA, hg', hc'⟩
    · omega
    · rw [← e1] at hA
      injection hA with hA
      injection hA with a1 a2
      subst a1
      subst a2
      exact ⟨g, cap, hv, hb, hg', hn1, by unfold maxLen at hc; exact hc, fun i hi => by have := hc' i hi; rw [Nat.zero_add] at this; exact this⟩

end Go.Proofs.YtkonokjhpddbfaaDoor
