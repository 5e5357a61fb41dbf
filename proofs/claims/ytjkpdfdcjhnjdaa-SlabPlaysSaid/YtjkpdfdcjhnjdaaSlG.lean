/-
  A slab's steps: what they come to where they go, where there is no room, where the fuse is 0.
-/
import Derived.Test.YtjkpdfdcjhnjdaaArg
namespace Go.Proofs.Ytjkpdfdcjhnjdaa
open Go.RowKit
set_option linter.unusedVariables false

theorem app_go (s : SS) (p : List Int) (h1 : s.dn = false) (h2 : s.l.length + p.length ≤ 262144) (h3 : s.fu ≠ 0) : stepE s p.length = 0 ∧ appS s p = ⟨s.l ++ p, s.k, up s.st, burn s.fu, false⟩ := by
  have e : stepE s p.length = 0 := by unfold stepE; rw [if_neg (by rw [h1]; decide), if_neg (by omega), if_neg h3]
  refine ⟨e, ?_⟩
  unfold appS
  rw [if_pos e]
  unfold stepS
  rw [if_neg (by rw [h1]; decide), if_neg (by omega), if_neg h3]
theorem app_full (s : SS) (p : List Int) (h1 : s.dn = false) (h2 : 262144 < s.l.length + p.length) : stepE s p.length = 4 ∧ appS s p = s := by
  have e : stepE s p.length = 4 := by unfold stepE; rw [if_neg (by rw [h1]; decide), if_pos h2]
  refine ⟨e, ?_⟩
  unfold appS
  rw [if_neg (by rw [e]; decide)]
  unfold stepS
  rw [if_neg (by rw [h1]; decide), if_pos h2]
theorem app_fuse (s : SS) (p : List Int) (h1 : s.dn = false) (h2 : s.l.length + p.length ≤ 262144) (h3 : s.fu = 0) : stepE s p.length = 5 ∧ appS s p = ⟨s.l, s.k, s.st, s.fu, true⟩ := by
  have e : stepE s p.length = 5 := by unfold stepE; rw [if_neg (by rw [h1]; decide), if_neg (by omega), if_pos h3]
  refine ⟨e, ?_⟩
  unfold appS
  rw [if_neg (by rw [e]; decide)]
  unfold stepS
  rw [if_neg (by rw [h1]; decide), if_neg (by omega), if_pos h3]
theorem era_go (s : SS) (h1 : s.dn = false) (h2 : s.l.length ≤ 262144) (h3 : s.fu ≠ 0) : stepE s 0 = 0 ∧ eraS s = ⟨[], 0, up s.st, burn s.fu, false⟩ := by
  have e : stepE s 0 = 0 := by unfold stepE; rw [if_neg (by rw [h1]; decide), if_neg (by omega), if_neg h3]
  refine ⟨e, ?_⟩
  unfold eraS
  rw [if_pos e]
  unfold stepS
  rw [if_neg (by rw [h1]; decide), if_neg (by omega), if_neg h3]
theorem up_small (x : Int) (h1 : 0 ≤ x) (h2 : x ≤ 1000000) : up x = x + 1 := by
  unfold up wrap64
  omega
theorem src_made {w : World} {base g m : Nat} (h : w.ownsRow base 5 1 (.slice (some ⟨g, 0, none⟩) m m) m (madeCells #[.int .u8 0] m).toList) : Src w (some ⟨g, 0, none⟩) m (List.replicate m 0) := by
  have e : byt (List.replicate m 0) = (madeCells #[.int .u8 0] m).toList := by rw [toList_madeCells_one]; simp [byt]
  have h2 : Own w base (.slice (some ⟨g, 0, none⟩) m m) (List.replicate m 0) := by
    unfold Own
    rw [e, List.length_replicate]
    exact h
  obtain ⟨A, c, hv, hS⟩ := h2.src
  injection hv with h3 h4 h5
  subst h3 h5
  exact hS
end Go.Proofs.Ytjkpdfdcjhnjdaa
