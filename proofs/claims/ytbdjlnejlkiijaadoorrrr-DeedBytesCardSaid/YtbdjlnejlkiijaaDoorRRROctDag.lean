/-
  A region that draws its order and lays a chain of things behind an Out: an invariant, one lemma a kind of operation.
-/
import Derived.Test.YtbdjlnejlkiijaaDoorRRRDag
import Derived.Test.YtbdjlnejlkiijaaDoorRRROctOnesLib
namespace Go.Proofs.YtbdjlnejlkiijaaDoorRRR.Oct
open Go.RowKit Go.Proofs.YtbdjlnejlkiijaaDoorRRR.Dag
set_option linter.unusedVariables false

theorem eval_getD {a : Act} {t : Nat} {v : Value} (h : a.eval (.tmp t) = v) : (a.tmps[t]?).getD undef = v := by
  rw [← Array.getD_eq_getD_getElem?]
  exact h
theorem grown_new {V X X' : World} {r r' : Option Nat} (h : V.grownBy X r) (hg : X.grownBy X' r') (hr : r' = r ∨ ∀ g, r' = some g → V.heap.size ≤ g) : V.grownBy X' r := by
  refine ⟨?_, ?_, ?_, Nat.le_trans h.size hg.size, fun k hk hne => ?_⟩
  · first | exact hg.os.trans h.os | exact h.os.trans hg.os
  · first | exact hg.tape.trans h.tape | exact h.tape.trans hg.tape
  · first | exact hg.output.trans h.output | exact h.output.trans hg.output
  · refine (hg.block k (Nat.lt_of_lt_of_le hk h.size) fun e => ?_).trans (h.block k hk hne)
    rcases hr with h1 | h1
    · rw [← h1] at hne; exact hne e
    · have := h1 k e.symm; omega
/-- What an operation of such a region is: it yields a value, or what another one has; it lays cells that call c takes; it is a call of the chain. -/
inductive Kind
  | const (u : Value)
  | move (j : Nat)
  | lay (t n : Nat) (cells : List Value) (c : Nat)
  | call
/-- The chain's last value, and what is laid in it. -/
def cur (ch : List (Nat × List Int)) (b : Nat → Bool) (v : Nat → Value) (v0 : Value) : Value := ch.foldl (fun acc p => if b p.1 = true then v p.1 else acc) v0
def curX (ch : List (Nat × List Int)) (b : Nat → Bool) (x0 : List Int) : List Int := ch.foldl (fun acc p => if b p.1 = true then p.2 else acc) x0
theorem cur_keep (b : Nat → Bool) (v : Nat → Value) (i : Nat) (u : Value) : ∀ (ch : List (Nat × List Int)) (v0 : Value), (∀ p ∈ ch, p.1 ≠ i) → cur ch (setb b i) (upd v i u) v0 = cur ch b v v0
  | [], _, _ => rfl
  | p :: ch, v0, h => by
    show cur ch (setb b i) (upd v i u) (if setb b i p.1 = true then upd v i u p.1 else v0) = cur ch b v (if b p.1 = true then v p.1 else v0)
    rw [cur_keep b v i u ch _ fun q hq => h q (List.mem_cons_of_mem _ hq), setb_ne _ (h p (by simp)), upd_ne _ _ (h p (by simp))]
theorem curX_keep (b : Nat → Bool) (i : Nat) : ∀ (ch : List (Nat × List Int)) (x0 : List Int), (∀ p ∈ ch, p.1 ≠ i) → curX ch (setb b i) x0 = curX ch b x0
  | [], _, _ => rfl
  | p :: ch, x0, h => by
    show curX ch (setb b i) (if setb b i p.1 = true then p.2 else x0) = curX ch b (if b p.1 = true then p.2 else x0)
    rw [curX_keep b i ch _ fun q hq => h q (List.mem_cons_of_mem _ hq), setb_ne _ (h p (by simp))]
theorem cur_none (b : Nat → Bool) (v : Nat → Value) : ∀ (ch : List (Nat × List Int)) (v0 : Value), (∀ p ∈ ch, b p.1 = false) → cur ch b v v0 = v0
  | [], _, _ => rfl
  | p :: ch, v0, h => by
    show cur ch b v (if b p.1 = true then v p.1 else v0) = v0
    rw [if_neg (by rw [h p (by simp)]; simp)]
    exact cur_none b v ch v0 fun q hq => h q (List.mem_cons_of_mem _ hq)
theorem curX_none (b : Nat → Bool) : ∀ (ch : List (Nat × List Int)) (x0 : List Int), (∀ p ∈ ch, b p.1 = false) → curX ch b x0 = x0
  | [], _, _ => rfl
  | p :: ch, x0, h => by
    show curX ch b (if b p.1 = true then p.2 else x0) = x0
    rw [if_neg (by rw [h p (by simp)]; simp)]
    exact curX_none b ch x0 fun q hq => h q (List.mem_cons_of_mem _ hq)
theorem cur_app (b : Nat → Bool) (v : Nat → Value) (pre post : List (Nat × List Int)) (v0 : Value) : cur (pre ++ post) b v v0 = cur post b v (cur pre b v v0) := List.foldl_append ..
theorem curX_app (b : Nat → Bool) (pre post : List (Nat × List Int)) (x0 : List Int) : curX (pre ++ post) b x0 = curX post b (curX pre b x0) := List.foldl_append ..
/-- What is so while the region goes on. -/
structure G (V : World) (b0 : Nat) (v0 : Value) (x0 : List Int) (ch : List (Nat × List Int)) (kind : Nat → Kind) (b : Nat → Bool) (v : Nat → Value) (X : World) : Prop where
  up : V.grownBy X v0.ownBlock
  own : Own X b0 (cur ch b v v0) (curX ch b x0)
  lies : Lies V v0 (cur ch b v v0)
  each : ∀ k, b k = true → match kind k with
    | .const u => v k = u
    | .move j => b j = true ∧ v k = v j
    | .lay t n cells c => b c = true ∨ ∃ g, v k = .slice (some ⟨g, 0, none⟩) n n ∧ V.heap.size ≤ g ∧ X.heap[g]? = some (.cells cells.toArray t (0, 0)) ∧ (cur ch b v v0).ownBlock ≠ some g
    | .call => True
section
variable {V X : World} {b0 : Nat} {v0 : Value} {x0 : List Int} {ch : List (Nat × List Int)} {kind : Nat → Kind} {b : Nat → Bool} {v : Nat → Value} {i : Nat}
theorem G.start (hO : Own V.drew b0 v0 x0) : G V b0 v0 x0 ch kind (fun _ => false) (fun _ => undef) V.drew :=
  ⟨Below.grownBy (below_drewN (Below.refl _ _) 1) _, by rw [cur_none _ _ _ _ fun _ _ => rfl, curX_none _ _ _ fun _ _ => rfl]; exact hO, by rw [cur_none _ _ _ _ fun _ _ => rfl]; exact .inl rfl, fun _ h => by cases h⟩
theorem G.val {u : Value} (h : G V b0 v0 x0 ch kind b v X) (hk : kind i = .const u) (hi : b i = false) (hc : ∀ p ∈ ch, p.1 ≠ i) : G V b0 v0 x0 ch kind (setb b i) (upd v i u) X := by
  have e1 := cur_keep b v i u ch v0 hc
  have e2 := curX_keep b i ch x0 hc
  refine ⟨h.up, by rw [e1, e2]; exact h.own, by rw [e1]; exact h.lies, fun k hb => ?_⟩
  by_cases hki : k = i
  · subst hki
    rw [hk]
    exact upd_eq _ _ _
  · rw [setb_ne _ hki] at hb
    have := h.each k hb
    rw [e1, upd_ne _ _ hki]
    cases hkk : kind k with
    | const u' => rw [hkk] at this; exact this
    | move j =>
      rw [hkk] at this
      have hj : j ≠ i := fun e => by have h5 := this.1; rw [e, hi] at h5; cases h5
      exact ⟨by rw [setb_ne _ hj]; exact this.1, by rw [upd_ne _ _ hj]; exact this.2⟩
    | lay t n cells c =>
      rw [hkk] at this
      rcases this with h1 | h1
      · left
        by_cases hci : c = i
        · rw [hci, setb_eq]
        · rw [setb_ne _ hci]; exact h1
      · exact .inr h1
    | call => trivial
theorem G.mov {j : Nat} (h : G V b0 v0 x0 ch kind b v X) (hk : kind i = .move j) (hi : b i = false) (hj : b j = true) (hc : ∀ p ∈ ch, p.1 ≠ i) : G V b0 v0 x0 ch kind (setb b i) (upd v i (v j)) X := by
  have e1 := cur_keep b v i (v j) ch v0 hc
  have e2 := curX_keep b i ch x0 hc
  have hji : j ≠ i := fun e => by rw [e, hi] at hj; cases hj
  refine ⟨h.up, by rw [e1, e2]; exact h.own, by rw [e1]; exact h.lies, fun k hb => ?_⟩
  by_cases hki : k = i
  · subst hki
    rw [hk]
    exact ⟨by rw [setb_ne _ hji]; exact hj, by rw [upd_eq, upd_ne _ _ hji]⟩
  · rw [setb_ne _ hki] at hb
    have := h.each k hb
    rw [e1, upd_ne _ _ hki]
    cases hkk : kind k with
    | const u' => rw [hkk] at this; exact this
    | move j' =>
      rw [hkk] at this
      have hj : j' ≠ i := fun e => by have h5 := this.1; rw [e, hi] at h5; cases h5
      exact ⟨by rw [setb_ne _ hj]; exact this.1, by rw [upd_ne _ _ hj]; exact this.2⟩
    | lay t n cells c =>
      rw [hkk] at this
      rcases this with h1 | h1
      · left
        by_cases hci : c = i
        · rw [hci, setb_eq]
        · rw [setb_ne _ hci]; exact h1
      · exact .inr h1
    | call => trivial
theorem own_lt {w : World} {base : Nat} {u : Value} {l : List Int} (h : Own w base u l) {g : Nat} (hg : u.ownBlock = some g) : g < w.heap.size := (World.ownsRow.lt h g hg).2
theorem G.laid {t n c : Nat} {cells : List Value} (h : G V b0 v0 x0 ch kind b v X) (hk : kind i = .lay t n cells c) (hi : b i = false) (hc : ∀ p ∈ ch, p.1 ≠ i) :
    G V b0 v0 x0 ch kind (setb b i) (upd v i (.slice (some ⟨X.heap.size, 0, none⟩) n n)) (X.alloc (.cells cells.toArray t)) := by
  have e1 := cur_keep b v i (.slice (some ⟨X.heap.size, 0, none⟩) n n) ch v0 hc
  have e2 := curX_keep b i ch x0 hc
  have hB : Below X.heap.size X (X.alloc (.cells cells.toArray t)) := (Below.refl _ _).alloc (Nat.le_refl _) _
  refine ⟨h.up.trans (Below.grownBy hB _), by rw [e1, e2]; exact Own.below h.own hB, by rw [e1]; exact h.lies, fun k hb => ?_⟩
  by_cases hki : k = i
  · subst hki
    rw [hk]
    refine .inr ⟨X.heap.size, upd_eq _ _ _, h.up.size, heap_alloc_last X _, fun e => ?_⟩
    rw [e1] at e
    exact Nat.lt_irrefl _ (own_lt h.own e)
  · rw [setb_ne _ hki] at hb
    have := h.each k hb
    rw [e1, upd_ne _ _ hki]
    cases hkk : kind k with
    | const u' => rw [hkk] at this; exact this
    | move j =>
      rw [hkk] at this
      have hj : j ≠ i := fun e => by have h5 := this.1; rw [e, hi] at h5; cases h5
      exact ⟨by rw [setb_ne _ hj]; exact this.1, by rw [upd_ne _ _ hj]; exact this.2⟩
    | lay t' n' cells' c' =>
      rw [hkk] at this
      rcases this with h1 | ⟨g, h1, h2, h3, h4⟩
      · left
        by_cases hci : c' = i
        · rw [hci, setb_eq]
        · rw [setb_ne _ hci]; exact h1
      · exact .inr ⟨g, h1, h2, (hB.block g (Array.getElem?_eq_some_iff.1 h3).1).trans h3, h4⟩
    | call => trivial
theorem G.called {u : Value} {X' : World} {xs : List Int} {pre post : List (Nat × List Int)} (h : G V b0 v0 x0 ch kind b v X) (hk : kind i = .call) (hi : b i = false) (he : ch = pre ++ (i, xs) :: post) (hnd : (ch.map (·.1)).Nodup) (hpost : ∀ p ∈ post, b p.1 = false)
    (hO : Own X' b0 u xs) (hg : X.grownBy X' (cur pre b v v0).ownBlock) (hL : Lies X (cur pre b v v0) u) :
    G V b0 v0 x0 ch kind (setb b i) (upd v i u) X' := by
  subst he
  rw [List.map_append, List.map_cons, List.nodup_append] at hnd
  have hni : ∀ p ∈ post, p.1 ≠ i := fun p hp e => by
    have := (List.nodup_cons.1 hnd.2.1).1
    exact this (List.mem_map.2 ⟨p, hp, e⟩)
  have hpi : ∀ p ∈ pre, p.1 ≠ i := fun p hp e => hnd.2.2 p.1 (List.mem_map.2 ⟨p, hp, rfl⟩) i (by simp) e
  have ec : cur (pre ++ (i, xs) :: post) b v v0 = cur pre b v v0 := by
    rw [cur_app, cur_none]
    intro p hp
    rcases List.mem_cons.1 hp with rfl | hp
    · exact hi
    · exact hpost p hp
  have en : cur (pre ++ (i, xs) :: post) (setb b i) (upd v i u) v0 = u := by
    rw [cur_app]
    show cur post _ _ (if setb b i i = true then upd v i u i else _) = u
    rw [if_pos (setb_eq _ _), upd_eq, cur_none]
    intro p hp
    rw [setb_ne _ (hni p hp)]
    exact hpost p hp
  have ex : curX (pre ++ (i, xs) :: post) (setb b i) x0 = xs := by
    rw [curX_app]
    show curX post _ (if setb b i i = true then xs else _) = xs
    rw [if_pos (setb_eq _ _), curX_none]
    intro p hp
    rw [setb_ne _ (hni p hp)]
    exact hpost p hp
  have hlie := h.lies
  rw [ec] at hlie
  refine ⟨?_, by rw [en, ex]; exact hO, ?_, fun k hb => ?_⟩
  · refine grown_new h.up hg ?_
    rcases hlie with h1 | ⟨g, h1, h2⟩
    · exact .inl h1
    · exact .inr fun g' e => by rw [h2] at e; injection e with e; omega
  · rw [en]
    rcases hL with h1 | ⟨g, h1, h2⟩
    · rcases hlie with h3 | ⟨g', h3, h4⟩
      · exact .inl (h1.trans h3)
      · exact .inr ⟨g', h3, h1.trans h4⟩
    · exact .inr ⟨g, Nat.le_trans h.up.size h1, h2⟩
  · by_cases hki : k = i
    · subst hki
      rw [hk]
      trivial
    · rw [setb_ne _ hki] at hb
      have := h.each k hb
      rw [en, upd_ne _ _ hki]
      cases hkk : kind k with
      | const u' => rw [hkk] at this; exact this
      | move j =>
        rw [hkk] at this
        have hj : j ≠ i := fun e => by have h5 := this.1; rw [e, hi] at h5; cases h5
        exact ⟨by rw [setb_ne _ hj]; exact this.1, by rw [upd_ne _ _ hj]; exact this.2⟩
      | lay t n cells c =>
        rw [hkk] at this
        rcases this with h1 | ⟨g, h1, h2, h3, h4⟩
        · left
          by_cases hci : c = i
          · rw [hci, setb_eq]
          · rw [setb_ne _ hci]; exact h1
        · rw [ec] at h4
          have hgl := (Array.getElem?_eq_some_iff.1 h3).1
          refine .inr ⟨g, h1, h2, (hg.block g hgl (Ne.symm h4)).trans h3, fun e => ?_⟩
          rcases hL with h5 | ⟨g', h5, h6⟩
          · rw [h5] at e
            exact h4 e
          · rw [h6] at e
            injection e with e
            omega
      | call => trivial
end
end Go.Proofs.YtbdjlnejlkiijaaDoorRRR.Oct
