/-
  Who is near, in numbers.
-/
import Derived.Test.YtnnimjaigciedaaWebRk
import Derived.Test.YtnnimjaigciedaaNearLib
namespace Go.Proofs.Ytnnimjaigciedaa
open Go.RowKit
set_option linter.unusedVariables false

def spotOf (sp : List (Int × Int)) (t : Int) : Int × Int := sp.getD t.toNat (0, 0)
def spd (x y : Int) (sp : List (Int × Int)) (t : Int) : Int := farP x y (spotOf sp t).1 (spotOf sp t).2
/-- As the document says: over all ways, one by one. -/
def rnear (x y : Int) (sp : List (Int × Int)) (amt : Int) : List Stp → Int → Int → Int
  | [], b, _ => b
  | s :: r, b, f => if amt ≤ s.c ∧ 0 ≤ spd x y sp s.t ∧ (b < 0 ∨ spd x y sp s.t < f) then rnear x y sp amt r s.t (spd x y sp s.t) else rnear x y sp amt r b f
def rn0 (x y : Int) (sp : List (Int × Int)) : List Stp → Int → Int → Int
  | [], b, _ => b
  | s :: r, b, f => if 0 ≤ spd x y sp s.t ∧ (b < 0 ∨ spd x y sp s.t < f) then rn0 x y sp r s.t (spd x y sp s.t) else rn0 x y sp r b f
theorem rnear_filter (x y : Int) (sp : List (Int × Int)) (amt : Int) : ∀ (S : List Stp) (b f : Int), rnear x y sp amt S b f = rn0 x y sp (S.filter fun s => decide (amt ≤ s.c)) b f := by
  intro S
  induction S with
  | nil => intro b f; rfl
  | cons s r ih =>
    intro b f
    by_cases h : amt ≤ s.c
    · rw [List.filter_cons_of_pos (by simpa using h)]
      unfold rnear rn0
      by_cases h2 : 0 ≤ spd x y sp s.t ∧ (b < 0 ∨ spd x y sp s.t < f)
      · rw [if_pos ⟨h, h2⟩, if_pos h2, ih]
      · rw [if_neg (fun k => h2 k.2), if_neg h2, ih]
    · rw [List.filter_cons_of_neg (by simpa using h)]
      unfold rnear
      rw [if_neg (fun k => h k.1), ih]
theorem openL_filter (es : List Ed) (x amt : Int) (hok : ∀ e ∈ es, EdOk e) : ∀ k, k ≤ es.length → openL es x amt k = (openL es x 0 k).filter fun s => decide (amt ≤ s.c) := by
  intro k
  induction k with
  | zero => intro _; rfl
  | succ k ih =>
    intro hk
    unfold openL
    rw [List.filter_append, ih (by omega)]
    congr 1
    have he : es.getD k ed0 ∈ es := by
      rw [List.getD_eq_getElem?_getD, List.getElem?_eq_getElem (by omega)]
      exact List.getElem_mem _
    obtain ⟨_, _, hc, hd, _⟩ := hok _ he
    have h0 := hc.1
    have h1 := hd.1
    unfold stepsAt
    by_cases e0 : sideE (es.getD k ed0) x = 0
    · rw [if_pos e0, if_pos e0, if_pos h0]
      by_cases h : amt ≤ (es.getD k ed0).c
      · rw [if_pos h, List.filter_cons_of_pos (by simpa [stp0] using h)]; rfl
      · rw [if_neg h, List.filter_cons_of_neg (by simpa [stp0] using h)]; rfl
    · rw [if_neg e0, if_neg e0]
      by_cases e1 : sideE (es.getD k ed0) x = 1
      · rw [if_pos e1, if_pos e1, if_pos h1]
        by_cases h : amt ≤ (es.getD k ed0).d
        · rw [if_pos h, List.filter_cons_of_pos (by simpa [stp1] using h)]; rfl
        · rw [if_neg h, List.filter_cons_of_neg (by simpa [stp1] using h)]; rfl
      · rw [if_neg e1, if_neg e1]; rfl
theorem stepsL_filter (sl : Nat) (es : List Ed) (x amt : Int) (hok : ∀ e ∈ es, EdOk e) : stepsL sl es x amt = (stepsL sl es x 0).filter fun s => decide (amt ≤ s.c) := by
  unfold stepsL
  split
  · exact openL_filter es x amt hok _ (Nat.le_refl _)
  · rfl
/-- An index's way. -/
def ansI (T : List Stp) (r : Int) : Int := if r < 0 then -1 else (T.getD r.toNat stp00).t
theorem rn0_go (x y : Int) (sp : List (Int × Int)) (T : List Stp) (hT : ∀ s ∈ T, 0 ≤ s.t) : ∀ (S : List Stp) (i : Nat) (b bi f : Int), T.drop i = S → i + S.length = T.length → (bi < 0 ∧ b = -1 ∨ ∃ j : Nat, bi = j ∧ j < T.length ∧ b = (T.getD j stp00).t) →
    rn0 x y sp S b f = ansI T (nearGo x y (S.map fun s => spotOf sp s.t) i bi f) := by
  intro S
  induction S with
  | nil =>
    intro i b bi f _ _ hb
    show b = ansI T bi
    unfold ansI
    rcases hb with ⟨h1, h2⟩ | ⟨j, h1, h2, h3⟩
    · rw [if_pos h1, h2]
    · rw [if_neg (by omega), h3, h1]; rfl
  | cons s r ih =>
    intro i b bi f hd hl hb
    have hi : i < T.length := by simp at hl; omega
    have hs : T.getD i stp00 = s := by
      have h9 : (T.drop i)[0]? = some s := by rw [hd]; rfl
      rw [List.getElem?_drop, Nat.add_zero] at h9
      rw [List.getD_eq_getElem?_getD, h9]; rfl
    have hd2 : T.drop (i + 1) = r := by
      rw [← List.drop_drop, hd]; rfl
    have hsm : s ∈ T := by
      rw [← hs, List.getD_eq_getElem?_getD, List.getElem?_eq_getElem hi]
      exact List.getElem_mem _
    have hbb : (b < 0 ↔ bi < 0) := by
      rcases hb with ⟨h1, h2⟩ | ⟨j, h1, h2, h3⟩
      · omega
      · have : 0 ≤ b := by
          rw [h3, List.getD_eq_getElem?_getD, List.getElem?_eq_getElem h2]
          exact hT _ (List.getElem_mem _)
        omega
    rw [List.map_cons]
    unfold rn0 nearGo
    by_cases h : 0 ≤ spd x y sp s.t ∧ (b < 0 ∨ spd x y sp s.t < f)
    · have h' : 0 ≤ farP x y (spotOf sp s.t).1 (spotOf sp s.t).2 ∧ (bi < 0 ∨ farP x y (spotOf sp s.t).1 (spotOf sp s.t).2 < f) := ⟨h.1, h.2.elim (fun k => .inl (hbb.1 k)) .inr⟩
      rw [if_pos h, if_pos h']
      exact ih (i + 1) s.t (i : Int) _ hd2 (by simp at hl ⊢; omega) (.inr ⟨i, rfl, hi, by rw [hs]⟩)
    · have h' : ¬ (0 ≤ farP x y (spotOf sp s.t).1 (spotOf sp s.t).2 ∧ (bi < 0 ∨ farP x y (spotOf sp s.t).1 (spotOf sp s.t).2 < f)) := fun k => h ⟨k.1, k.2.elim (fun q => .inl (hbb.2 q)) .inr⟩
      rw [if_neg h, if_neg h']
      exact ih (i + 1) b bi f hd2 (by simp at hl ⊢; omega) hb
/-- What the program's Near answers. -/
def nearA (sl : Nat) (sp : List (Int × Int)) (es : List Ed) (node amt x y : Int) : Int := ansI (stepsL sl es node amt) (nearP x y ((stepsL sl es node amt).map fun s => spotOf sp s.t))
theorem stepsL_t {sl : Nat} {es : List Ed} {node amt : Int} {s : Stp} (hs : s ∈ stepsL sl es node amt) : 0 ≤ s.t ∧ s.t < (sl : Int) := by
  obtain ⟨hc, i, hi, h⟩ := stepsL_mem hs
  have hg : AllGood sl es := by
    unfold checkE at hc
    split at hc
    · cases hc
    · split at hc
      · assumption
      · cases hc
  have he : es.getD i ed0 ∈ es := by
    rw [List.getD_eq_getElem?_getD, List.getElem?_eq_getElem hi]
    exact List.getElem_mem _
  obtain ⟨hp, hq, _⟩ := hg _ he
  rcases h with ⟨rfl, _⟩ | ⟨rfl, _⟩
  · exact hq
  · exact hp
theorem rnear_is (sl : Nat) (sp : List (Int × Int)) (es : List Ed) (node amt x y : Int) (hok : ∀ e ∈ es, EdOk e) : rnear x y sp amt (stepsL sl es node 0) (-1) 0 = nearA sl sp es node amt x y := by
  rw [rnear_filter, ← stepsL_filter sl es node amt hok]
  exact rn0_go x y sp _ (fun s hs => (stepsL_t hs).1) _ 0 (-1) (-1) 0 rfl (by simp) (.inl ⟨by decide, rfl⟩)
theorem nearA_bound (x y : Int) (l : List (Int × Int)) : nearP x y l < l.length := (near_range x y l).2

/-- Spots as cells, one of them turned. -/
theorem flat_cons (f : Int × Int) (r : List (Int × Int)) : flat (f :: r) = .int .i64 f.1 :: .int .i64 f.2 :: flat r := rfl
theorem flat_set (l : List (Int × Int)) (u v : Int) : ∀ k, k < l.length → ((flat l).set (k * 2) (.int .i64 u)).set (k * 2 + 1) (.int .i64 v) = flat (l.set k (u, v)) := by
  induction l with
  | nil => intro k h; simp at h
  | cons f r ih =>
    intro k h
    rw [flat_cons]
    match k, h with
    | 0, _ => rfl
    | k + 1, h =>
      rw [show (k + 1) * 2 = k * 2 + 1 + 1 by omega, show k * 2 + 1 + 1 + 1 = (k * 2 + 1) + 1 + 1 by omega]
      simp only [List.set_cons_succ, flat_cons]
      rw [ih k (by simpa using h)]
theorem flat_at (l : List (Int × Int)) : ∀ k, k < l.length → (flat l)[k * 2]? = some (.int .i64 (l.getD k (0, 0)).1) ∧ (flat l)[k * 2 + 1]? = some (.int .i64 (l.getD k (0, 0)).2) := by
  induction l with
  | nil => intro k h; simp at h
  | cons f r ih =>
    intro k h
    rw [flat_cons]
    match k, h with
    | 0, _ => exact ⟨rfl, rfl⟩
    | k + 1, h =>
      rw [show (k + 1) * 2 = k * 2 + 1 + 1 by omega, show k * 2 + 1 + 1 + 1 = (k * 2 + 1) + 1 + 1 by omega]
      simpa using ih k (by simpa using h)
theorem spots_blk {w : World} {g : Nat} {l : List (Int × Int)} (h : Blk w g 62 (flat l)) : SpotRow w (some ⟨g, 0, none⟩) l := by
  by_cases hl : l = []
  · exact .inl hl
  · refine .inr ⟨g, 0, rfl, h.lt, fun i hi => ?_⟩
    rw [Nat.zero_add, h.cell, h.cell]
    exact flat_at l i hi
end Go.Proofs.Ytnnimjaigciedaa
