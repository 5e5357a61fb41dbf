/-
  All never turns; what stands in the law's walk.
-/
import Derived.Test.YtbopnijekafogaaTillV
namespace Go.Proofs.Ytbopnijekafogaa
open Go.RowKit
set_option linter.unusedVariables false

def tot : List (Int × Int) → Int
  | [] => 0
  | a :: r => a.1 + tot r
theorem allS_eq (l : List (Int × Int)) : ∀ s, Word s → allS s l = wrp (s + tot l) := by
  induction l with
  | nil => intro s hs; rw [tot, Int.add_zero, wrp_word hs]; rfl
  | cons a r ih =>
    intro s hs
    rw [allS, ih _ (wr_word _), tot, wr_mod, wr_mod, wr_mod]
    omega
theorem tot_set (l : List (Int × Int)) : ∀ k, k < l.length → ∀ x y, tot (l.set k (x, y)) = tot l - (l.getD k (0, 0)).1 + x := by
  induction l with
  | nil => intro k h; simp at h
  | cons a r ih =>
    intro k h x y
    match k, h with
    | 0, _ => simp [tot]; omega
    | k + 1, h =>
      have := ih k (by simpa using h) x y
      simp only [List.set_cons_succ, tot, List.getD_cons_succ, this]
      omega
theorem all_ord (l : List (Int × Int)) (K who n : Int) (hK : Word K) : allS K (ordL l who n) = allS K l := by
  rw [allS_eq _ _ hK, allS_eq _ _ hK]
  unfold ordL
  split
  · rename_i h
    have hin : 0 ≤ who ∧ who < l.length := by
      unfold ordE at h
      split at h
      · assumption
      · cases h
    rw [tot_set _ _ (by omega)]
    congr 1; omega
  · rfl
theorem keepK_word (l : List (Int × Int)) (K who n : Int) (hK : Word K) : Word (keepK l K who n) := by
  unfold keepK; split
  · exact wr_word _
  · exact hK
theorem all_keep (l : List (Int × Int)) (K who n : Int) (hK : Word K) : allS (keepK l K who n) (keepL l who n) = allS K l := by
  rw [allS_eq _ _ (keepK_word l K who n hK), allS_eq _ _ hK]
  unfold keepK keepL
  by_cases h : keepE l who n = 0
  · have hin : 0 ≤ who ∧ who < l.length := by
      unfold keepE at h
      split at h
      · assumption
      · cases h
    rw [if_pos h, if_pos h, tot_set _ _ (by omega), wr_mod, wr_mod, wr_mod]
    omega
  · rw [if_neg h, if_neg h]
theorem giveK_word (l : List (Int × Int)) (K who n : Int) (hK : Word K) (hn : Word n) : Word (giveK l K who n) := by
  unfold giveK; split
  · rename_i h
    unfold giveE at h
    split at h
    · split at h
      · cases h
      · unfold Word at *; omega
    · cases h
  · exact hK
theorem all_give (l : List (Int × Int)) (K who n : Int) (hK : Word K) (hn : Word n) : allS (giveK l K who n) (giveL l K who n) = allS K l := by
  rw [allS_eq _ _ (giveK_word l K who n hK hn), allS_eq _ _ hK]
  unfold giveK giveL
  by_cases h : giveE l K who n = 0
  · have hin : 0 ≤ who ∧ who < l.length := by
      unfold giveE at h
      split at h
      · assumption
      · cases h
    rw [if_pos h, if_pos h, tot_set _ _ (by omega), wr_mod, wr_mod, wr_mod]
    omega
  · rw [if_neg h, if_neg h]
theorem all_move (l : List (Int × Int)) (K who tw n : Int) (hK : Word K) : allS K (moveL l who tw n) = allS K l := by
  rw [allS_eq _ _ hK, allS_eq _ _ hK]
  unfold moveL
  by_cases h : moveE l who tw n = 0
  · have hin : (0 ≤ who ∧ who < l.length) ∧ 0 ≤ tw ∧ tw < l.length := by
      unfold moveE at h
      split at h
      · split at h
        · exact ⟨by assumption, by assumption⟩
        · cases h
      · cases h
    rw [if_pos h]
    unfold mov2
    rw [tot_set _ _ (by rw [mov1_length]; omega)]
    unfold mov1
    rw [tot_set _ _ (by omega), wr_mod, wr_mod, wr_mod]
    omega
  · rw [if_neg h]

/-- All that stands: the till, the document's, the first one and the twin; base w0. -/
structure St (w0 w : World) (b g bm gh gn cap : Nat) (sp : List Value) (b1 g1 b2 g2 : Nat) (xs : List Int) (l1 : List (Int × Int)) (k1 : Int) (l2 : List (Int × Int)) (k2 : Int) : Prop where
  T : AtT w b g l1 k1
  R : RefT w bm gh gn cap sp l2 k2
  F : AtT w b1 g1 (fresh xs) 0
  V : AtT w b2 g2 (fresh xs) 0
  W : Below w0.heap.size w0 w
  n1 : b ≠ b1
  n2 : b ≠ b2
  n3 : g ≠ g1
  n4 : g ≠ g2
  u1 : w0.heap.size ≤ b
  u2 : w0.heap.size ≤ g
  u3 : w0.heap.size ≤ bm
  u4 : w0.heap.size ≤ gh
  u5 : w0.heap.size ≤ gn
section
variable {w0 w w' : World} {b g bm gh gn cap : Nat} {sp : List Value} {b1 g1 b2 g2 : Nat} {xs : List Int} {l1 : List (Int × Int)} {k1 : Int} {l2 : List (Int × Int)} {k2 : Int}
theorem St.keep (h : St w0 w b g bm gh gn cap sp b1 g1 b2 g2 xs l1 k1 l2 k2) (hB : Below w.heap.size w w') : St w0 w' b g bm gh gn cap sp b1 g1 b2 g2 xs l1 k1 l2 k2 :=
  ⟨h.T.keep hB, h.R.keep hB, h.F.keep hB, h.V.keep hB, h.W.trans (hB.mono h.W.size), h.n1, h.n2, h.n3, h.n4, h.u1, h.u2, h.u3, h.u4, h.u5⟩
theorem St.till {l : List (Int × Int)} {k : Int} (h : St w0 w b g bm gh gn cap sp b1 g1 b2 g2 xs l1 k1 l2 k2) (hT : AtT w' b g l k) (ho : Only2 b g w w') : St w0 w' b g bm gh gn cap sp b1 g1 b2 g2 xs l k l2 k2 := by
  have hO : OnlyS (fun i => i = b ∨ i = g) w w' := OnlyS.of2 ho (.inl rfl) (.inr rfl)
  refine ⟨hT, h.R.onlyS hO ?_ ?_ ?_, h.F.only ho (Ne.symm h.n1) ?_ ?_ (Ne.symm h.n3), h.V.only ho (Ne.symm h.n2) ?_ ?_ (Ne.symm h.n4), h.W.trans (ho.below h.u1 h.u2 h.W.size), h.n1, h.n2, h.n3, h.n4, h.u1, h.u2, h.u3, h.u4, h.u5⟩
  · rintro (e | e)
    · exact h.R.top.ne_ h.T.top (by decide) e
    · exact h.R.top.ne_ h.T.row (by decide) e
  · rintro (e | e)
    · exact h.R.has.ne_ h.T.top (by decide) e
    · exact h.R.has.ne_ h.T.row (by decide) e
  · rintro (e | e)
    · exact h.R.next.ne_ h.T.top (by decide) e
    · exact h.R.next.ne_ h.T.row (by decide) e
  · exact h.F.top.ne_ h.T.row (by decide)
  · exact h.F.row.ne_ h.T.top (by decide)
  · exact h.V.top.ne_ h.T.row (by decide)
  · exact h.V.row.ne_ h.T.top (by decide)
theorem St.ref {l : List (Int × Int)} {k : Int} (h : St w0 w b g bm gh gn cap sp b1 g1 b2 g2 xs l1 k1 l2 k2) (hR : RefT w' bm gh gn cap sp l k) (ho : OnlyS (fun i => i = bm ∨ i = gh ∨ i = gn) w w') : St w0 w' b g bm gh gn cap sp b1 g1 b2 g2 xs l1 k1 l k := by
  have key : ∀ {i : Nat} {t : TypeId} {cs : List Value}, Blk w i t cs → (t = 54 ∨ t = 56) → ¬ (i = bm ∨ i = gh ∨ i = gn) := by
    rintro i t cs hb ht (e | e | e)
    · exact hb.ne_ h.R.top (by rcases ht with rfl | rfl <;> decide) e
    · exact hb.ne_ h.R.has (by rcases ht with rfl | rfl <;> decide) e
    · exact hb.ne_ h.R.next (by rcases ht with rfl | rfl <;> decide) e
  exact ⟨h.T.onlyS ho (key h.T.top (.inl rfl)) (key h.T.row (.inr rfl)), hR, h.F.onlyS ho (key h.F.top (.inl rfl)) (key h.F.row (.inr rfl)), h.V.onlyS ho (key h.V.top (.inl rfl)) (key h.V.row (.inr rfl)),
    h.W.trans (ho.below (by rintro i (rfl | rfl | rfl); exact h.u3; exact h.u4; exact h.u5) h.W.size), h.n1, h.n2, h.n3, h.n4, h.u1, h.u2, h.u3, h.u4, h.u5⟩
theorem St.opT {go : Nat} {cs : List Value} (h : St w0 w b g bm gh gn cap sp b1 g1 b2 g2 xs l1 k1 l2 k2) (hb : Blk w go 36 cs) (ho : Only2 b g w w') : Blk w' go 36 cs :=
  hb.only ho (hb.ne_ h.T.top (by decide)) (hb.ne_ h.T.row (by decide))
theorem St.opR {go : Nat} {cs : List Value} (h : St w0 w b g bm gh gn cap sp b1 g1 b2 g2 xs l1 k1 l2 k2) (hb : Blk w go 36 cs) (ho : OnlyS (fun i => i = bm ∨ i = gh ∨ i = gn) w w') : Blk w' go 36 cs :=
  hb.onlyS ho (by
    rintro (e | e | e)
    · exact hb.ne_ h.R.top (by decide) e
    · exact hb.ne_ h.R.has (by decide) e
    · exact hb.ne_ h.R.next (by decide) e)
end
end Go.Proofs.Ytbopnijekafogaa
