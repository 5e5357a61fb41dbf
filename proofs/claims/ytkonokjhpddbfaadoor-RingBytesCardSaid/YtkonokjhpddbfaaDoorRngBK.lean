/-
  Both Takes of a ring's signature answer alike, whatever the bytes; what was laid is taken as it was.
-/
import Derived.Test.YtkonokjhpddbfaaDoorRngBA
import Derived.Test.YtkonokjhpddbfaaDoorRngBB
import Derived.Test.YtkonokjhpddbfaaDoorRngBJ
import Derived.Test.YtkonokjhpddbfaaDoorRngP
import Derived.Test.YtkonokjhpddbfaaDoorRngQ
namespace Go.Proofs.YtkonokjhpddbfaaDoor
open Go.RowKit
set_option linter.unusedVariables false

/-- What a Take of a ring's signature answers, of any bytes. -/
def uS (l : List Nat) : List Nat := if tkE l 0 = 0 then tkS l else zS
def uK (l : List Nat) : Nat := if tkE l 0 = 0 then Oct.numG l 4 else 0
def uM (l : List Nat) : Nat := if tkE l 0 = 0 then tkM l else 0
def uW (l : List Nat) : Nat → List Nat := if tkE l 0 = 0 then tkW l else zW
theorem uS_length (l : List Nat) : (uS l).length = 1024 := by
  unfold uS
  split
  · exact takeN_length _
  · exact zS_length
theorem uW_length (l : List Nat) (a : Nat) : ((uW l) a).length = 32 := by
  unfold uW
  split
  · exact tk_length _ _
  · exact zW_length _
theorem uM_le (l : List Nat) : uM l ≤ 8 := by
  unfold uM
  split
  · exact manyV_le _ _
  · omega
theorem Blk.grown' {w w' : World} {g n : Nat} {t u : TypeId} {cs ds : List Value} (h : Blk w g t cs) (h2 : Blk w n u ds) (ht : u ≠ t) (hg : w.grownBy w' (some n)) : Blk w' g t cs :=
  h.grown hg (fun e => by
    injection e with e
    subst e
    have h3 : some (Obj.cells cs.toArray t (0, 0)) = some (Obj.cells ds.toArray u (0, 0)) := h.symm.trans h2
    injection h3 with h3
    injection h3 with _ h4 _
    exact ht h4.symm)
theorem take_uni {w w' : World} {g : Nat} {l : List Nat} {r : Ending} (h : TakePost w g l 0 r w') : ∃ A c, r = .returned (.agg (rsg (uS l) (uK l) (.slice A (uM l) c)).toArray) ∧
    (∀ (V : World) (n u : Nat) (ds : List Value), Blk w' n u ds → u ≠ 36 → w'.grownBy V (some n) → WayR V (.slice A (uM l) c) (uW l) (uM l)) ∧ Oct.InG w' g (tkL l) (tkE l 0) ∧ w.grownBy w' (some g) := by
  obtain ⟨h1, h2, h3, h4⟩ := h
  by_cases he : tkE l 0 = 0
  · obtain ⟨gw, hr, hb⟩ := h3 he
    refine ⟨some ⟨gw, 0, none⟩, tkM l, ?_, ?_, h1, h2⟩
    · rw [hr]
      unfold uS uK uM
      rw [if_pos he, if_pos he, if_pos he]
    · intro V n u ds hn hu hg
      unfold uW uM
      rw [if_pos he, if_pos he]
      exact WayR.blk _ (fun a => tk_length _ _) (hb.grown' hn hu hg)
  · refine ⟨none, 0, ?_, ?_, h1, h2⟩
    · rw [h4 he]
      unfold uS uK uM
      rw [if_neg he, if_neg he, if_neg he]
      rfl
    · intro V n u ds hn hu hg
      unfold uW uM
      rw [if_neg he, if_neg he]
      exact WayR.nil _ _
theorem rtake_uni {w w' : World} {g : Nat} {A : Option Addr} {c : Nat} {l r0 : List Nat} {r : Ending} (h : RefTakePost w g A c l r0 0 r w') : ∃ A1 c1, r = .returned (.agg (rsg (uS r0) (uK r0) (.slice A1 (uM r0) c1)).toArray) ∧
    WayR w' (.slice A1 (uM r0) c1) (uW r0) (uM r0) ∧ RefR w' g A c l (tkL r0) (tkE r0 0) ∧ w.grownBy w' (some g) := by
  obtain ⟨h1, h2, h3, h4⟩ := h
  by_cases he : tkE r0 0 = 0
  · obtain ⟨u, hr, hb⟩ := h3 he
    obtain ⟨A1, c1, rfl, hx⟩ := id hb
    refine ⟨A1, c1, ?_, ?_, h1, h2⟩
    · rw [hr]
      unfold uS uK uM
      rw [if_pos he, if_pos he, if_pos he]
    · unfold uW uM
      rw [if_pos he, if_pos he]
      exact hb
  · refine ⟨none, 0, ?_, ?_, h1, h2⟩
    · rw [h4 he]
      unfold uS uK uM
      rw [if_neg he, if_neg he, if_neg he]
      rfl
    · unfold uW uM
      rw [if_neg he, if_neg he]
      exact WayR.nil _ _
theorem take_lay5 (S : List Nat) (hS : S.length = 1024) : takeN (layN S) = S := by
  have hk : ∀ a, a < 32 → tk (layN S) a = pcs S a ++ pcs S (32 + a) := fun a ha => by
    unfold tk
    rw [if_pos (by rw [layN_length S hS]; omega)]
    have h : ∀ a, (pcs S (a % 32) ++ pcs S (32 + a % 32)).length = 32 := fun a => by
      rw [List.length_append, pcs_length _ _ (by omega), pcs_length _ _ (by omega)]
    have e : layN S = rows (fun a => pcs S (a % 32) ++ pcs S (32 + a % 32)) 32 := rows_congr 32 fun a ha => by rw [Nat.mod_eq_of_lt ha]
    rw [e, rows_piece h 32 a ha, Nat.mod_eq_of_lt ha]
  have h1 : rows (tf (layN S)) 32 = rows (fun a => pcs S (0 + a)) 32 := rows_congr 32 fun a ha => by
    unfold tf
    rw [hk a ha, List.take_append_of_le_length (by rw [pcs_length _ _ (by omega)]; omega), List.take_of_length_le (by rw [pcs_length _ _ (by omega)]; omega), Nat.zero_add]
  have h2 : rows (tg (layN S)) 32 = rows (fun a => pcs S (32 + a)) 32 := rows_congr 32 fun a ha => by
    unfold tg
    have hl : (pcs S a).length = 16 := pcs_length _ _ (by omega)
    rw [hk a ha, List.drop_append_of_le_length (by omega), List.drop_of_length_le (by omega), List.nil_append]
  unfold takeN
  rw [h1, h2, rows_pcs, rows_pcs]
  simp
  rw [List.take_of_length_le (l := S.drop 512) (by simp; omega), List.take_append_drop]
/-- What was laid, taken back. -/
theorem take_back5 {w w' : World} {g key m : Nat} {S : List Nat} {q : Nat → List Nat} {r : Ending} (hk : key < 4294967296) (hm : m ≤ 8) (hS : S.length = 1024) (hq : ∀ a, (q a).length = 32) (h : TakePost w g (rlayN S key q m) 0 r w') :
    ∃ A c, r = .returned (.agg (rsg S key (.slice A m c)).toArray) ∧ WayR w' (.slice A m c) q m ∧ Oct.InG w' g [] 0 ∧ w.grownBy w' (some g) := by
  obtain ⟨h1, h2, h3, _⟩ := h
  have he := laid_ends S key q m hk hm hS hq
  have hp := laid_parts S key q m hk hm
  rw [he.1, he.2] at h1
  obtain ⟨gw, hr, hb⟩ := h3 he.1
  have e1 : tkS (rlayN S key q m) = S := by
    rw [hp.2.2.1, takeN_app _ _ (by rw [layN_length S hS]; omega)]
    exact take_lay5 S hS
  have e2 : rows (tkW (rlayN S key q m)) m = rows q m := rows_congr' _ _ m fun i hi => by
    rw [hp.2.2.2]
    exact tk_way S q m i hS hq hi
  rw [hp.2.1, e2] at hb
  refine ⟨some ⟨gw, 0, none⟩, m, ?_, WayR.blk _ hq hb, h1, h2⟩
  rw [hr, hp.1, hp.2.1, e1]
theorem Src.toOct5 {w : World} {b : Nat} {A : Option Addr} {c : Nat} {l : List Nat} (h : Src w b A c l) (h0 : A = none → c = 0) : Oct.Src w A c (ints l) := by
  refine ⟨h0, ?_⟩
  rcases h.at_ with h1 | ⟨g, off, h1, h2, _, h4⟩
  · left; rw [h1]; rfl
  · right
    refine ⟨g, off, h1, h2, fun i hi => ?_⟩
    rw [ints_length] at hi
    rw [h4 i hi]
    simp [ints, List.getD, hi]
theorem no_nil5 {w : World} {b c n : Nat} {l : List Nat} (hl : l.length = n + 1) : ¬ Src w b none c l := fun h => by
  rcases h.at_ with h1 | ⟨g, off, h1, _⟩
  · rw [h1] at hl; cases hl
  · cases h1
theorem to_string9 (w : World) (A : Option Addr) (c n : Nat) (l : List Int) (hn : n = l.length) (hS : Oct.Src w A c l) : (convert 30 9 (.slice A n c)).run Tryd.prog w = .ok (.string (Oct.txt l)) w := by
  subst hn
  rw [run_convert_bytes_string w 30 9 5 A l.length c Tryd.underlying30 Tryd.underlying5 Tryd.underlying9]
  have h := Oct.to_string w A c l.length l rfl hS
  rw [run_convert_bytes_string w 71 9 5 A l.length c Tryd.underlying71 Tryd.underlying5 Tryd.underlying9] at h
  exact h
theorem Oct.Src.far5 {w w' : World} {n : Nat} {A : Option Addr} {c : Nat} {l : List Int} (h : Oct.Src w A c l) (hg : w.grownBy w' (some n)) (hn : l ≠ [] → ∀ a, A = some a → a.block ≠ n) : Oct.Src w' A c l := by
  refine ⟨h.1, ?_⟩
  rcases h.2 with h1 | ⟨g, off, h1, h2, h4⟩
  · exact .inl h1
  · refine .inr ⟨g, off, h1, Nat.lt_of_lt_of_le h2 hg.size, fun i hi => ?_⟩
    rw [← h4 i hi]
    exact World.cell?_of_block (hg.block g h2 (fun e => by injection e with e; exact hn (fun hl => by rw [hl] at hi; exact absurd hi (Nat.not_lt_zero _)) _ h1 e))
theorem cutHi72 (g o L c h : Nat) (hh : h ≤ L) (hc : L < c ∨ h < L) (hlc : L ≤ c) (W : World) : (Instr.slice 71 (.slice (some ⟨g, o, none⟩) L c) (some (.int .i64 (h : Int))) none none).run Tryd.prog W = .ok (.slice (some ⟨g, o + h, none⟩) (L - h) (c - h)) W := by
  obtain ⟨i0, hi, hzz⟩ := Option.map_eq_some_iff.1 Oct.byte_info
  simp only [Prod.mk.injEq] at hzz
  obtain ⟨hz0, hz1, hz2⟩ := hzz
  rw [run_slice_l (P := Tryd.prog) W 71 _ L c (by kernel_rfl) .i64 (h : Int) (by omega) (by omega), show Tryd.prog.elem 71 = 5 by kernel_rfl]
  have e : ¬ (c = h) := by omega
  simp [sizeOf, typeInfo, hi, hz1, sliced, e, Go.WideShapes.add_plain]
theorem layN_lt5 (S : List Nat) (h : ∀ x ∈ S, x < 256) : ∀ x ∈ layN S, x < 256 := rows_lt (fun a x hx => by
  rcases List.mem_append.1 hx with hx | hx
  · exact pcs_lt S _ h x hx
  · exact pcs_lt S _ h x hx) 32
theorem rlayN_lt (S : List Nat) (key : Nat) (q : Nat → List Nat) (m : Nat) (hS : ∀ x ∈ S, x < 256) (hk : key < 4294967296) (hm : m < 256) (hq : ∀ a, ∀ x ∈ q a, x < 256) : ∀ x ∈ rlayN S key q m, x < 256 := by
  intro x hx
  unfold rlayN at hx
  rcases List.mem_append.1 hx with hx | hx
  · rcases List.mem_append.1 hx with hx | hx
    · rcases List.mem_append.1 hx with hx | hx
      · exact four_lt key hk x hx
      · simp at hx; omega
    · exact layN_lt5 S hS x hx
  · exact rows_lt hq m x hx
end Go.Proofs.YtkonokjhpddbfaaDoor
