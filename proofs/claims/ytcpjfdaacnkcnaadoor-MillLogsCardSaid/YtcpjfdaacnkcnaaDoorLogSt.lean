/-
  A log's state: of each beginning the text that was noted last; what a note makes of it.
-/
import Derived.Test.YtcpjfdaacnkcnaaDoorNote
namespace Go.Proofs.YtcpjfdaacnkcnaaDoor
open Go.RowKit
set_option linter.unusedVariables false

/-- The last place of a key. -/
def lastAt (Ks : List (List Nat)) (k : List Nat) : Nat → Int
  | 0 => -1
  | n + 1 => if Ks.getD n [] = k then (n : Int) else lastAt Ks k n
theorem lastAt_cases (Ks : List (List Nat)) (k : List Nat) : ∀ n, (lastAt Ks k n = -1 ∧ ∀ j, j < n → Ks.getD j [] ≠ k) ∨ ∃ j : Nat, lastAt Ks k n = (j : Int) ∧ j < n ∧ Ks.getD j [] = k
  | 0 => .inl ⟨rfl, fun j hj => by omega⟩
  | n + 1 => by
    by_cases h : Ks.getD n [] = k
    · exact .inr ⟨n, by rw [lastAt, if_pos h], by omega, h⟩
    · rw [lastAt, if_neg h]
      rcases lastAt_cases Ks k n with ⟨h1, h2⟩ | ⟨j, h1, h2, h3⟩
      · refine .inl ⟨h1, fun j hj => ?_⟩
        by_cases hjn : j = n
        · rw [hjn]; exact h
        · exact h2 j (by omega)
      · exact .inr ⟨j, h1, by omega, h3⟩

structure LogSt (w : World) (B g : Nat) (b : Option Nat) (met : Bool) (Ks Xs : List (List Nat)) : Prop where
  blk : Blk w g 49 [.map b, .bool met]
  low : B ≤ g
  len : Xs.length = Ks.length
  keys : ∀ k ∈ Ks, k.length = 4 ∧ ∀ x ∈ k, x < 256
  once : ∀ i j, i < Ks.length → j < Ks.length → Ks.getD i [] = Ks.getD j [] → i = j
  small : ∀ x ∈ Xs, x.length ≤ 500 ∧ ∀ y ∈ x, y < 256
  none_ : b = none → Ks = [] ∧ met = false
  some_ : ∀ i, b = some i → B ≤ i ∧ ∃ V : List Value, V.length = Ks.length ∧ LogMap w i (Ks.zip V) ∧ ∀ j, j < Ks.length → Own w B (V.getD j undef) (Xs.getD j [])
/-- What a note leaves of all else. -/
structure Kept (B : Nat) (w w' : World) : Prop where
  below : Below B w w'
  rows : ∀ (i : Nat) (cur : Array Value) (t : TypeId), t ≠ 49 → w.heap[i]? = some (.cells cur t (0, 0)) → w'.heap[i]? = some (.cells cur t (0, 0))
theorem Kept.row {B base e size n : Nat} {w w' : World} {v : Value} {xs : List Value} (h : Kept B w w') (he : e ≠ 49) (hO : w.ownsRow base e size v n xs) : w'.ownsRow base e size v n xs := by
  refine ⟨hO.1, ?_⟩
  rcases hO.2 with h1 | ⟨g, cap, cur, hv, hb, hg, rest⟩
  · exact .inl h1
  · exact .inr ⟨g, cap, cur, hv, hb, h.rows g cur e he hg, rest⟩
theorem Kept.of_below {B : Nat} {w w' : World} (hB : B ≤ w.heap.size) (h : Below w.heap.size w w') : Kept B w w' :=
  ⟨h.mono hB, fun i cur t _ hi => (h.block i (Array.getElem?_eq_some_iff.1 hi).1).trans hi⟩
theorem map_block {w : World} {b : Nat} {T : List (List Nat × Value)} (h : LogMap w b T) {cur : Array Value} {t : TypeId} {fz : Nat × Nat} : w.heap[b]? ≠ some (.cells cur t fz) := by
  obtain ⟨es, clock, hh, _⟩ := h.ex
  rw [hh]
  intro e
  cases e
theorem Only2.kept {w w' : World} {B g : Nat} {b : Option Nat} {cs : List Value} (h : Only2 w w' g b) (hB : B ≤ w.heap.size) (hg : B ≤ g) (hb : ∀ i, b = some i → B ≤ i ∧ ∃ T, LogMap w i T) (hG : Blk w g 49 cs) : Kept B w w' := by
  refine ⟨h.below hg (fun i hi => (hb i hi).1) hB, fun i cur t ht hi => ?_⟩
  refine (h.block i (Array.getElem?_eq_some_iff.1 hi).1 ?_ ?_).trans hi
  · rintro rfl
    unfold Blk at hG
    rw [hG] at hi
    injection hi with hi
    injection hi with _ hi
    exact ht hi.symm
  · intro e
    obtain ⟨_, T, hT⟩ := hb i e
    exact map_block hT hi
theorem own_src {w : World} {B g : Nat} {v : Value} {x : List Nat} {cs : List Value} (h : Own w B v x) (hG : Blk w g 49 cs) (hx : ∀ y ∈ x, y < 256) : ∃ A c, v = .slice A x.length c ∧ Src w g A c x := by
  rcases h.2 with ⟨rfl, h0⟩ | ⟨b, c, cur, rfl, _, hb, h1, h2, h3, h4⟩
  · have : x = [] := List.eq_nil_of_length_eq_zero h0
    subst this
    exact ⟨none, 0, rfl, ⟨Nat.le_refl _, .inl rfl, hx⟩⟩
  · refine ⟨_, c, rfl, ⟨h1, .inr ⟨b, 0, rfl, (Array.getElem?_eq_some_iff.1 hb).1, ?_, fun i hi => ?_⟩, hx⟩⟩
    · rintro rfl
      unfold Blk at hG
      rw [hG] at hb
      injection hb with hb
      injection hb with _ hb
      cases hb
    · rw [Nat.zero_add, cell_of_row w b i cur 5 (0, 0) hb]
      have : (cur.toList.take (x.length * 1))[i]? = (w8 x)[i]? := by rw [h4]
      rw [List.getElem?_take, if_pos (by omega)] at this
      rw [← Array.getElem?_toList, this, w8_get x i hi]
theorem zip_get (Ks : List (List Nat)) (V : List Value) (hl : V.length = Ks.length) (j : Nat) (hj : j < Ks.length) : (Ks.zip V)[j]? = some (Ks.getD j [], V.getD j undef) := by
  rw [List.getElem?_zip_eq_some]
  simp [List.getD, hj, hl]
theorem zip_mem (Ks : List (List Nat)) (V : List Value) (hl : V.length = Ks.length) (p : List Nat × Value) (hp : p ∈ Ks.zip V) : ∃ j, j < Ks.length ∧ p.1 = Ks.getD j [] := by
  obtain ⟨j, hj, he⟩ := List.mem_iff_getElem.1 hp
  have hj' : j < Ks.length := by simp at hj; omega
  refine ⟨j, hj', ?_⟩
  rw [← he]
  simp [List.getD, hj']
theorem getD_set_ne {α : Type} (l : List α) (i j : Nat) (x d : α) (h : i ≠ j) : (l.set i x).getD j d = l.getD j d := by
  simp [List.getD, h]
theorem getD_set_eq {α : Type} (l : List α) (i : Nat) (x d : α) (h : i < l.length) : (l.set i x).getD i d = x := by
  simp [List.getD, h]
theorem getD_snoc_lt {α : Type} (l : List α) (j : Nat) (x d : α) (h : j < l.length) : (l ++ [x]).getD j d = l.getD j d := by
  simp [List.getD, List.getElem?_append_left h]
theorem getD_snoc_eq {α : Type} (l : List α) (x d : α) : (l ++ [x]).getD l.length d = x := by
  simp [List.getD]
theorem own_keep {w w' : World} {B g : Nat} {b : Option Nat} {v : Value} {x : List Nat} {cs : List Value} (h : Own w B v x) (hO : Kept B w w') : Own w' B v x := hO.row (by decide) h
theorem own_low {w : World} {B B' : Nat} {v : Value} {x : List Nat} (h : Own w B' v x) (hB : B ≤ B') : Own w B v x := h.lower hB

section
variable {w : World} {B g n : Nat} {b : Option Nat} {met : Bool} {Ks Xs : List (List Nat)} {D x : List Nat} {A : Option Addr} {c : Nat}
theorem take4_ok (hD : D.length = 32) (hDB : ∀ z ∈ D, z < 256) : (D.take 4).length = 4 ∧ ∀ z ∈ D.take 4, z < 256 := ⟨by rw [List.length_take, hD]; rfl, fun z hz => hDB z (List.mem_of_mem_take hz)⟩
theorem note_add (HL : LogSt w B g b met Ks Xs) (hBw : B ≤ w.heap.size) (hD : D.length = 32) (hDB : ∀ z ∈ D, z < 256) (hS : Src w g A c x) (hN : x.length = n) (hn : n ≤ 500) (hk : ∀ j, j < Ks.length → Ks.getD j [] ≠ D.take 4) :
    Calls Tryd.prog 21 #[.pointer (some ⟨g, 0, none⟩), .agg (w8 D).toArray, .slice A n c] w fun e w' => e = .returned (.tuple #[]) ∧ (∃ b', LogSt w' B g b' met (Ks ++ [D.take 4]) (Xs ++ [x])) ∧ Kept B w w' := by
  have hT4 := take4_ok hD hDB
  have hkeys : ∀ k ∈ Ks ++ [D.take 4], k.length = 4 ∧ ∀ x ∈ k, x < 256 := fun k hk => by
    rcases List.mem_append.1 hk with h | h
    · exact HL.keys k h
    · simp at h; rw [h]; exact hT4
  have honce : ∀ i j, i < (Ks ++ [D.take 4]).length → j < (Ks ++ [D.take 4]).length → (Ks ++ [D.take 4]).getD i [] = (Ks ++ [D.take 4]).getD j [] → i = j := fun i j hi hj he => by
    simp at hi hj
    by_cases hi' : i < Ks.length
    · by_cases hj' : j < Ks.length
      · rw [getD_snoc_lt _ _ _ _ hi', getD_snoc_lt _ _ _ _ hj'] at he
        exact HL.once i j hi' hj' he
      · obtain rfl : j = Ks.length := by omega
        rw [getD_snoc_lt _ _ _ _ hi', getD_snoc_eq] at he
        exact absurd he (hk i hi')
    · obtain rfl : i = Ks.length := by omega
      by_cases hj' : j < Ks.length
      · rw [getD_snoc_lt _ _ _ _ hj', getD_snoc_eq] at he
        exact absurd he.symm (hk j hj')
      · omega
  have hsmall : ∀ y ∈ Xs ++ [x], y.length ≤ 500 ∧ ∀ z ∈ y, z < 256 := fun y hy => by
    rcases List.mem_append.1 hy with h | h
    · exact HL.small y h
    · simp at h; rw [h]; exact ⟨by omega, hS.lt⟩
  cases b with
  | none =>
    obtain ⟨rfl, rfl⟩ := HL.none_ rfl
    have hX0 : Xs = [] := List.eq_nil_of_length_eq_zero (by rw [HL.len]; rfl)
    subst hX0
    refine (note_first g n false D x A c w (Lib.hid HL.blk) (Lib.hid hD) (Lib.hid hDB) (Lib.hid hS) (Lib.hid hN) (by omega)).mono ?_
    rintro e w' ⟨rfl, b', v, hO, hB, hM, hb', _, h2⟩
    refine ⟨rfl, ⟨some b', hB, HL.low, rfl, hkeys, honce, hsmall, fun h => (by cases h), fun i hi => ?_⟩, ?_⟩
    · injection hi with hi
      subst hi
      refine ⟨Nat.le_trans hBw hb', [v], rfl, hM, fun j hj => ?_⟩
      obtain rfl : j = 0 := by simpa using hj
      exact own_low hO hBw
    · exact h2.kept hBw HL.low (fun i hi => by cases hi) HL.blk
  | some b0 =>
    obtain ⟨hb0, V, hVl, hM, hV⟩ := HL.some_ b0 rfl
    have hgb : g ≠ b0 := by
      rintro rfl
      exact map_block hM (show w.heap[g]? = _ from HL.blk)
    refine (note_new g b0 n met (Ks.zip V) D x A c w (Lib.hid HL.blk) (Lib.hid hM) hgb (Lib.hid hD) (Lib.hid hDB) (Lib.hid hS) (Lib.hid hN) (by omega) (Lib.hid fun p hp he => by
      obtain ⟨j, hj, hpj⟩ := zip_mem Ks V hVl p hp
      exact hk j hj (by rw [← hpj, he]))).mono ?_
    rintro e w' ⟨rfl, v, hO, hB, hM', h2⟩
    have hK : Kept B w w' := h2.kept hBw HL.low (fun i hi => by injection hi with hi; subst hi; exact ⟨hb0, _, hM⟩) HL.blk
    refine ⟨rfl, ⟨some b0, hB, HL.low, by simp [HL.len], hkeys, honce, hsmall, fun h => (by cases h), fun i hi => ?_⟩, hK⟩
    injection hi with hi
    subst hi
    refine ⟨hb0, V ++ [v], by simp [hVl], ?_, fun j hj => ?_⟩
    · rw [List.zip_append hVl.symm]; exact hM'
    · simp at hj
      by_cases hj' : j < Ks.length
      · rw [getD_snoc_lt _ _ _ _ (by omega), getD_snoc_lt _ _ _ _ (by rw [HL.len]; exact hj')]
        exact hK.row (by decide) (hV j hj')
      · obtain rfl : j = Ks.length := by omega
        rw [← hVl, getD_snoc_eq, hVl, ← HL.len, getD_snoc_eq]
        exact own_low hO hBw
theorem note_again (HL : LogSt w B g b met Ks Xs) (hBw : B ≤ w.heap.size) (hD : D.length = 32) (hDB : ∀ z ∈ D, z < 256) (hS : Src w g A c x) (hN : x.length = n) (hn : n ≤ 500) (j : Nat) (hj : j < Ks.length) (hk : Ks.getD j [] = D.take 4) :
    Calls Tryd.prog 21 #[.pointer (some ⟨g, 0, none⟩), .agg (w8 D).toArray, .slice A n c] w fun e w' => e = .returned (.tuple #[]) ∧ (∃ b', LogSt w' B g b' (met || decide (Xs.getD j [] ≠ x)) Ks (Xs.set j x)) ∧ Kept B w w' := by
  cases b with
  | none => obtain ⟨rfl, _⟩ := HL.none_ rfl; simp at hj
  | some b0 =>
    obtain ⟨hb0, V, hVl, hM, hV⟩ := HL.some_ b0 rfl
    have hgb : g ≠ b0 := by
      rintro rfl
      exact map_block hM (show w.heap[g]? = _ from HL.blk)
    have hXj : Xs.getD j [] ∈ Xs := by
      have : j < Xs.length := by rw [HL.len]; exact hj
      simp [List.getD, this]
    obtain ⟨A0, c0, hv0, hS0⟩ := own_src (hV j hj) HL.blk (HL.small _ hXj).2
    have hJ : (Ks.zip V)[j]? = some (D.take 4, .slice A0 (Xs.getD j []).length c0) := by rw [zip_get Ks V hVl j hj, hk, hv0]
    have hU : ∀ i u, (Ks.zip V)[i]? = some (D.take 4, u) → i = j := fun i u hi => by
      have hi' : i < Ks.length := by
        have := (List.getElem?_eq_some_iff.1 hi).1
        simp at this
        omega
      rw [zip_get Ks V hVl i hi'] at hi
      injection hi with hi
      injection hi with hi _
      exact HL.once i j hi' hj (by rw [hi, hk])
    by_cases hxy : Xs.getD j [] = x
    · have hset : Xs.set j x = Xs := by
        rw [← hxy]
        apply List.ext_getElem?
        intro i
        by_cases hij : j = i
        · subst hij
          have : j < Xs.length := by rw [HL.len]; exact hj
          simp [List.getD, this]
        · rw [List.getElem?_set_ne hij]
      have hm : (met || decide (Xs.getD j [] ≠ x)) = met := by rw [show decide (Xs.getD j [] ≠ x) = false from decide_eq_false (fun h => h hxy)]; simp
      rw [hset, hm]
      refine (note_same g b0 n met (Ks.zip V) D x A c w (Lib.hid HL.blk) (Lib.hid hM) hgb (Lib.hid hD) (Lib.hid hDB) (Lib.hid hS) (Lib.hid hN) (by omega) j A0 (Xs.getD j []).length c0 (Xs.getD j []) (Lib.hid hJ) (Lib.hid hU) (Lib.hid hS0) (Lib.hid rfl) (Lib.hid hxy)).mono ?_
      rintro e w' ⟨rfl, hB⟩
      have hK : Kept B w w' := Kept.of_below hBw hB
      refine ⟨rfl, ⟨some b0, HL.blk.below hB HL.blk.lt, HL.low, HL.len, HL.keys, HL.once, HL.small, fun h => (by cases h), fun i hi => ?_⟩, hK⟩
      injection hi with hi
      subst hi
      exact ⟨hb0, V, hVl, hM.below hB, fun i hi => hK.row (by decide) (hV i hi)⟩
    · have hm : (met || decide (Xs.getD j [] ≠ x)) = true := by rw [show decide (Xs.getD j [] ≠ x) = true from decide_eq_true hxy]; simp
      rw [hm]
      refine (note_unlike g b0 n met (Ks.zip V) D x A c w (Lib.hid HL.blk) (Lib.hid hM) hgb (Lib.hid hD) (Lib.hid hDB) (Lib.hid hS) (Lib.hid hN) (by omega) j A0 (Xs.getD j []).length c0 (Xs.getD j []) (Lib.hid hJ) (Lib.hid hU) (Lib.hid hS0) (Lib.hid rfl) (Lib.hid hxy)).mono ?_
      rintro e w' ⟨rfl, v, hO, hB, hM', h2⟩
      have hK : Kept B w w' := h2.kept hBw HL.low (fun i hi => by injection hi with hi; subst hi; exact ⟨hb0, _, hM⟩) HL.blk
      refine ⟨rfl, ⟨some b0, hB, HL.low, by simp [HL.len], HL.keys, HL.once, fun y hy => ?_, fun h => (by cases h), fun i hi => ?_⟩, hK⟩
      · rcases List.mem_or_eq_of_mem_set hy with hy | rfl
        · exact HL.small y hy
        · exact ⟨by omega, hS.lt⟩
      · injection hi with hi
        subst hi
        refine ⟨hb0, V.set j v, by simp [hVl], ?_, fun i hi => ?_⟩
        · have hz : (Ks.zip V).set j (D.take 4, v) = Ks.zip (V.set j v) := by
            apply List.ext_getElem?
            intro i
            by_cases hij : j = i
            · subst hij
              rw [zip_get Ks (V.set j v) (by simp [hVl]) j hj, getD_set_eq _ _ _ _ (by omega), hk]
              simp [hVl, hj]
            · by_cases hi : i < Ks.length
              · rw [List.getElem?_set_ne hij, zip_get Ks V hVl i hi, zip_get Ks (V.set j v) (by simp [hVl]) i hi, getD_set_ne _ _ _ _ _ hij]
              · rw [List.getElem?_eq_none (by simp; omega), List.getElem?_eq_none (by simp; omega)]
          rw [← hz]; exact hM'
        · by_cases hij : j = i
          · subst hij
            rw [getD_set_eq _ _ _ _ (by omega), getD_set_eq _ _ _ _ (by rw [HL.len]; exact hj)]
            exact own_low hO hBw
          · rw [getD_set_ne _ _ _ _ _ hij, getD_set_ne _ _ _ _ _ hij]
            exact hK.row (by decide) (hV i hi)
end
end Go.Proofs.YtcpjfdaacnkcnaaDoor
