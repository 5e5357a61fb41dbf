/-
  What LampBytes needs of both Ins after a Take: Bad, Left; and that what was laid is taken as it was.
-/
import Derived.Test.YtkonokjhpddbfaaDoorRefTake
import Derived.Test.YtkonokjhpddbfaaDoorRefLay
import Derived.Test.YtkonokjhpddbfaaDoorLampG
import Derived.Test.YtkonokjhpddbfaaDoorLampL
import Derived.Test.YtkonokjhpddbfaaDoorLongWalk
namespace Go.Proofs.YtkonokjhpddbfaaDoor
open Go.RowKit
set_option linter.unusedVariables false

/-- What is left of L bytes after 32 sums of which none, or one, failed. -/
def leftN (L : Nat) : Nat := if 1024 ≤ L then L - 1024 else 0
theorem bad_k (g : Nat) (l : List Nat) (w : World) (HI : Hid (InK w g l 32)) : Calls Tryd.prog 34 #[.pointer (some ⟨g, 0, none⟩)] w fun r w' => r = .returned (.int .i64 ((rBad l.length 32 : Nat) : Int)) ∧ Below w.heap.size w w' := by
  have h := HI.out
  unfold InK at h
  unfold rBad
  by_cases hc : 32 * 32 ≤ l.length
  · rw [if_pos hc] at h ⊢
    exact (Oct.bad_any g _ w (Lib.hid h)).mono (by rintro e w' ⟨rfl, rfl⟩; exact ⟨rfl, Below.refl _ _⟩)
  · rw [if_neg hc] at h ⊢
    exact (Oct.bad_bad g w (Lib.hid h)).mono (by rintro e w' ⟨rfl, rfl⟩; exact ⟨rfl, Below.refl _ _⟩)
theorem left_k (g : Nat) (l : List Nat) (w : World) (HI : Hid (InK w g l 32)) : Calls Tryd.prog 35 #[.pointer (some ⟨g, 0, none⟩)] w fun r w' => r = .returned (.int .i64 ((leftN l.length : Nat) : Int)) ∧ Below w.heap.size w w' := by
  have h := HI.out
  unfold InK at h
  unfold leftN
  by_cases hc : 32 * 32 ≤ l.length
  · rw [if_pos hc] at h
    rw [if_pos (by omega)]
    exact (Oct.left_any g _ _ w (Lib.hid h) (Lib.hid (by rw [ints_length, List.length_drop]))).mono (by rintro e w' ⟨rfl, rfl⟩; exact ⟨rfl, Below.refl _ _⟩)
  · rw [if_neg hc] at h
    rw [if_neg (by omega)]
    exact (Oct.left_bad g w (Lib.hid h)).mono (by rintro e w' ⟨rfl, rfl⟩; exact ⟨rfl, Below.refl _ _⟩)
set_option maxRecDepth 100000 in
set_option maxHeartbeats 1000000 in
theorem rleft_any (g : Nat) (A : Option Addr) (c : Nat) (l : List Nat) (w : World) (HR : Hid (RefK w g A c l 32)) (hl : l.length ≤ 5000) :
    Calls Tryd.prog 36 #[.pointer (some ⟨g, 0, none⟩)] w fun e w' => e = .returned (.int .i64 ((leftN l.length : Nat) : Int)) ∧ Below w.heap.size w w' := by
  obtain ⟨L, hL⟩ : ∃ L, l.length = L := ⟨_, rfl⟩
  have hb := HR.out.blk
  rw [hL] at hb hl ⊢
  by_cases h0 : 32 * 32 ≤ L
  · have e1 : rAt L 32 = 32 * 32 := if_pos h0
    have e2 : rBad L 32 = 0 := if_pos h0
    have e3 : leftN L = L - 1024 := if_pos (by omega)
    rw [e1, e2] at hb
    rw [e3]
    have c0 := hb.cell 0
    have c1 := hb.cell 1
    have c2 := hb.cell 2
    have HB := Lib.hid hb
    clear hb
    have hv : (L : Int) - 1024 = ((L - 1024 : Nat) : Int) := by omega
    go_enter Tryd.func36, Tryd.ntmps36
    go_upto_region 3 with fail
    go_quiet (fail)
    go_wp2
    go_ret
    exact ⟨by simp, by first | exact Below.refl _ _ | exact below_drewN (Below.refl _ _) _⟩
  · have e2 : rBad L 32 = 9 := if_neg h0
    have e3 : leftN L = 0 := if_neg (by omega)
    rw [e2] at hb
    rw [e3]
    have c2 := hb.cell 2
    clear hb
    go_enter Tryd.func36, Tryd.ntmps36
    go_wp2
    go_ret
    exact ⟨rfl, Below.refl _ _⟩
theorem to_string8 (w : World) (A : Option Addr) (c n : Nat) (l : List Int) (hn : n = l.length) (hS : Oct.Src w A c l) : (convert 30 9 (.slice A n c)).run Tryd.prog w = .ok (.string (Oct.txt l)) w := by
  subst hn
  rw [run_convert_bytes_string w 30 9 5 A l.length c Tryd.underlying30 Tryd.underlying5 Tryd.underlying9]
  have h := Oct.to_string w A c l.length l rfl hS
  rw [run_convert_bytes_string w 71 9 5 A l.length c Tryd.underlying71 Tryd.underlying5 Tryd.underlying9] at h
  exact h
theorem take_lay (S : List Nat) (hS : S.length = 1024) : takeN (layN S) = S := by
  have hk : ∀ a, a < 32 → tk (layN S) a = pcs S a ++ pcs S (32 + a) := fun a ha => by
    unfold tk
    rw [if_pos (by rw [layN_length S hS]; omega)]
    have h : ∀ a, (pcs S (a % 32) ++ pcs S (32 + a % 32)).length = 32 := fun a => by
      rw [List.length_append, pcs_length _ _ (by omega), pcs_length _ _ (by omega)]
    have e : layN S = rows (fun a => pcs S (a % 32) ++ pcs S (32 + a % 32)) 32 := rows_congr 32 fun a ha => by rw [Nat.mod_eq_of_lt ha]
    rw [e, rows_piece h 32 a ha, Nat.mod_eq_of_lt ha]
  have h1 : rows (tf (layN S)) 32 = rows (fun a => pcs S (0 + a)) 32 := rows_congr 32 fun a ha => by
    unfold tf
    rw [hk a ha, List.take_append_of_le_length (by rw [pcs_length _ _ (by omega)]; omega), List.take_of_length_le (by rw [pcs_length _ _ (by omega)]; omega), Nat.zero_add]
  have h2 : rows (tg (layN S)) 32 = rows (fun a => pcs S (32 + a)) 32 := rows_congr 32 fun a ha => by
    unfold tg
    have hl : (pcs S a).length = 16 := pcs_length _ _ (by omega)
    rw [hk a ha, List.drop_append_of_le_length (by omega), List.drop_of_length_le (by omega), List.nil_append]
  unfold takeN
  rw [h1, h2, rows_pcs, rows_pcs]
  simp
  rw [List.take_of_length_le (l := S.drop 512) (by simp; omega), List.take_append_drop]

/-- What was laid, taken back. -/
theorem take_back (g : Nat) (S : List Nat) (w : World) (HL : Hid (S.length = 1024)) (HI : Hid (InK w g (layN S) 0)) : Calls Tryd.prog 31 #[.pointer (some ⟨g, 0, none⟩)] w fun r w' => r = .returned (.agg (w8 S).toArray) ∧ Oct.InAt w' g [] ∧ w.grownBy w' (some g) :=
  (take_lamp g (layN S) w HI).mono (by
    rintro e w' ⟨rfl, hi, hg⟩
    refine ⟨by rw [take_lay S HL.out], ?_, hg⟩
    unfold InK at hi
    rw [if_pos (by rw [layN_length S HL.out]; omega), List.drop_of_length_le (by rw [layN_length S HL.out]; omega)] at hi
    exact hi)
theorem end_k (g : Nat) (w : World) (HI : Hid (Oct.InAt w g [])) : Calls Tryd.prog 38 #[.pointer (some ⟨g, 0, none⟩)] w fun r w' => r = .returned (.int .i64 0) ∧ Below w.heap.size w w' :=
  (Oct.end_any g w HI).mono (by rintro e w' ⟨rfl, rfl⟩; exact ⟨rfl, Below.refl _ _⟩)
/-- Only block g, and what is new, has turned since B. -/
def Far (B : World) (g : Nat) (w : World) : Prop := B.grownBy w (some g)
theorem Far.below {B : World} {g : Nat} {w w' : World} (h : Far B g w) (hb : Below w.heap.size w w') : Far B g w' := Oct.only_below h hb
theorem step_conv {ops : Array Oper} {o : Oper} {a : Act} {w : World} {K : Act → World → Prop} {Q : Exit → Act → World → Prop} {E : Prop} (hw : Region.wanted o (yielded ops a.tmps) = true) (t u : TypeId) (x : Operand) (ho : o.op = .convert t u x)
    (v r : Value) (hv : a.eval x = v) (hr : (convert t u v).run Tryd.prog w = .ok r w) (h : K (a.put o.dst r) w) : if Region.wanted o (yielded ops a.tmps) = true then Oper.wp Tryd.prog o a w K Q else E := by
  rw [if_pos hw]
  have e : (execOp a.eval o).run Tryd.prog w = .ok (.value r) w := by
    unfold execOp
    simp only [ho, hv, Sem.run_bind, hr, Result.andThen_ok, Sem.run_pure]
  unfold Oper.wp
  rw [e]
  exact h
theorem build68 (A : Option Addr) (n c : Nat) (w : World) : (Instr.build 68 #[(0, .slice A n c)]).run Tryd.prog w = .ok (.agg #[.slice A n c, .int .i64 0, .int .i64 0]) w := run_build w 68 _ _ (by kernel_rfl)
theorem Blk.setRowO {w : World} {g b : Nat} {t : TypeId} {cs : List Value} (h : Blk w g t cs) (hb : g ≠ b) (c : Array Value) : Blk (w.setRow b c) g t cs := (setRow_other w b g c hb).trans h
theorem Oct.Src.farG {w w' : World} {n : Nat} {A : Option Addr} {c : Nat} {l : List Int} (h : Oct.Src w A c l) (hg : w.grownBy w' (some n)) (hn : l ≠ [] → ∀ a, A = some a → a.block ≠ n) : Oct.Src w' A c l := by
  refine ⟨h.1, ?_⟩
  rcases h.2 with h1 | ⟨g, off, h1, h2, h4⟩
  · exact .inl h1
  · refine .inr ⟨g, off, h1, Nat.lt_of_lt_of_le h2 hg.size, fun i hi => ?_⟩
    rw [← h4 i hi]
    exact World.cell?_of_block (hg.block g h2 (fun e => by injection e with e; exact hn (fun hl => by rw [hl] at hi; exact absurd hi (Nat.not_lt_zero _)) _ h1 e))
theorem Src.toOct {w : World} {b : Nat} {A : Option Addr} {c : Nat} {l : List Nat} (h : Src w b A c l) (h0 : A = none → c = 0) : Oct.Src w A c (ints l) := by
  refine ⟨h0, ?_⟩
  rcases h.at_ with h1 | ⟨g, off, h1, h2, _, h4⟩
  · left; rw [h1]; rfl
  · right
    refine ⟨g, off, h1, h2, fun i hi => ?_⟩
    rw [ints_length] at hi
    rw [h4 i hi]
    simp [ints, List.getD, hi]
end Go.Proofs.YtkonokjhpddbfaaDoor
