/-
  The document's slab in memory: New, step, Erase.
-/
import Derived.Test.YtjkpdfdcjhnjdaaLsA
namespace Go.Proofs.Ytjkpdfdcjhnjdaa
open Go.RowKit
set_option linter.unusedVariables false

/-- Bytes that are read, in no block of S. -/
def RdS (w : World) (S : Nat → Prop) (X : Value) (l : List Int) : Prop := ∃ A c, X = .slice A l.length c ∧ Src w A c l ∧ ∀ a, A = some a → a.block < w.heap.size ∧ ¬ S a.block
def Sb (S : Nat → Prop) (bm : Nat) (i : Nat) : Prop := S i ∨ i = bm
/-- The document's slab: what lasts, what is loose. -/
structure RefAt (w : World) (S : Nat → Prop) (bm : Nat) (s : SS) : Prop where
  rows : ∃ vS vL, Blk w bm 48 [vS, vL, .int .i64 s.fu, .int .i64 s.st, .bool s.dn] ∧ RdS w (Sb S bm) vS (s.l.take s.k) ∧ RdS w (Sb S bm) vL (s.l.drop s.k)
  off : ¬ S bm
section
variable {w w' : World} {S T : Nat → Prop} {bm : Nat} {s : SS} {X : Value} {l : List Int}
theorem RdS.nil (w : World) (S : Nat → Prop) : RdS w S (.slice none 0 0) [] := ⟨none, 0, rfl, ⟨fun _ => rfl, .inl rfl⟩, fun a h => by cases h⟩
theorem RdS.onlyS (h : RdS w S X l) (ho : OnlyS T w w') (hT : ∀ i, T i → S i ∨ w.heap.size ≤ i) : RdS w' S X l := by
  obtain ⟨A, c, h1, h2, h3⟩ := h
  refine ⟨A, c, h1, h2.onlyS ho (fun a ha ht => ?_), fun a ha => ⟨Nat.lt_of_lt_of_le (h3 a ha).1 ho.size, (h3 a ha).2⟩⟩
  rcases hT _ ht with h | h
  · exact (h3 a ha).2 h
  · have := (h3 a ha).1; omega
theorem RdS.below (h : RdS w S X l) (hB : Below w.heap.size w w') : RdS w' S X l := h.onlyS (T := fun _ => False) (OnlyS.of_below hB) (fun i h => h.elim)
theorem RdS.turn (h : RdS w S X l) (hT : ∀ i, T i → S i ∨ w.heap.size ≤ i) : RdS w T X l := by
  obtain ⟨A, c, h1, h2, h3⟩ := h
  refine ⟨A, c, h1, h2, fun a ha => ⟨(h3 a ha).1, fun ht => ?_⟩⟩
  rcases hT _ ht with h | h
  · exact (h3 a ha).2 h
  · have := (h3 a ha).1; omega
theorem RdS.own {base : Nat} (h : Own w base X l) (hS : ∀ i, base ≤ i → ¬ S i) : RdS w S X l := by
  obtain ⟨A, c, h1, h2⟩ := h.src
  refine ⟨A, c, h1, h2, ?_⟩
  rintro a rfl
  have := h.lt a.block (by rw [h1]; rfl)
  exact ⟨this.2, hS _ this.1⟩
theorem RefAt.onlyS (h : RefAt w S bm s) (ho : OnlyS S w w') : RefAt w' S bm s := by
  obtain ⟨⟨vS, vL, h1, h2, h3⟩, h4⟩ := h
  exact ⟨⟨vS, vL, h1.onlyS ho h4, h2.onlyS ho (fun i h => .inl (.inl h)), h3.onlyS ho (fun i h => .inl (.inl h))⟩, h4⟩
theorem RefAt.below (h : RefAt w S bm s) (hB : Below w.heap.size w w') : RefAt w' S bm s := by
  obtain ⟨⟨vS, vL, h1, h2, h3⟩, h4⟩ := h
  exact ⟨⟨vS, vL, h1.below hB h1.lt, h2.below hB, h3.below hB⟩, h4⟩
theorem RefAt.lt (h : RefAt w S bm s) : bm < w.heap.size := by obtain ⟨⟨vS, vL, h1, _⟩, _⟩ := h; exact h1.lt
/-- The other slab's blocks turn: to a new one at most. -/
theorem RefAt.turn (h : RefAt w S bm s) (hT : ∀ i, T i → S i ∨ w.heap.size ≤ i) : RefAt w T bm s := by
  have hl := h.lt
  obtain ⟨⟨vS, vL, h1, h2, h3⟩, h4⟩ := h
  have hT2 : ∀ i, Sb T bm i → Sb S bm i ∨ w.heap.size ≤ i := by
    rintro i (h | h)
    · rcases hT i h with h | h
      · exact .inl (.inl h)
      · exact .inr h
    · exact .inl (.inr h)
  refine ⟨⟨vS, vL, h1, h2.turn hT2, h3.turn hT2⟩, fun ht => ?_⟩
  rcases hT _ ht with h | h
  · exact h4 h
  · omega
end

theorem rnew_any (w : World) (S : Nat → Prop) (hS : ∀ i, w.heap.size ≤ i → ¬ S i) : Calls Try.prog 8 #[] w fun e w' => ∃ bm, e = .returned (.pointer (some ⟨bm, 0, none⟩)) ∧ w.heap.size ≤ bm ∧ RefAt w' S bm fresh ∧ Below w.heap.size w w' := by
  go_enter Try.func8, Try.ntmps8
  go_wp2
  go_ret
  exact ⟨_, rfl, Nat.le_refl _, ⟨⟨_, _, Blk.new _ _ _, RdS.nil _ _, RdS.nil _ _⟩, hS _ (Nat.le_refl _)⟩, (Below.refl _ _).alloc (Nat.le_refl _) _⟩

def tick (s : SS) : SS := if s.fu = 0 then ⟨s.l, s.k, s.st, s.fu, true⟩ else ⟨s.l, s.k, up s.st, burn s.fu, false⟩
theorem tick_is (s : SS) (n : Nat) (h1 : s.dn = false) (h2 : s.l.length + n ≤ 262144) : stepS s n = tick s ∧ stepE s n = if s.fu = 0 then 5 else 0 := by
  constructor
  · unfold stepS tick
    rw [if_neg (by rw [h1]; decide), if_neg (by omega)]
  · unfold stepE
    rw [if_neg (by rw [h1]; decide), if_neg (by omega)]
theorem tick_l (s : SS) : (tick s).l = s.l := by unfold tick; split <;> rfl
theorem tick_k (s : SS) : (tick s).k = s.k := by unfold tick; split <;> rfl
/-- Its own block turns: the rows stay. -/
theorem RefAt.mine {w w' : World} {S : Nat → Prop} {bm : Nat} {l : List Int} {k : Nat} {vS vL : Value} (hS : RdS w (Sb S bm) vS (l.take k)) (hL : RdS w (Sb S bm) vL (l.drop k)) (ho : OnlyS (fun i => i = bm) w w') (hoff : ¬ S bm) (st fu : Int) (dn : Bool)
    (hb : Blk w' bm 48 [vS, vL, .int .i64 fu, .int .i64 st, .bool dn]) : RefAt w' S bm ⟨l, k, st, fu, dn⟩ :=
  ⟨⟨vS, vL, hb, hS.onlyS ho (fun i h => .inl (.inr h)), hL.onlyS ho (fun i h => .inl (.inr h))⟩, hoff⟩
set_option maxHeartbeats 2000000 in
theorem rstep_any (S : Nat → Prop) (bm : Nat) (s : SS) (w : World) (h : RefAt w S bm s) (hd : s.dn = false) (hf1 : -1 ≤ s.fu) (hf2 : s.fu ≤ 9223372036854775807) :
    Calls Try.prog 29 #[.pointer (some ⟨bm, 0, none⟩)] w fun e w' => e = .returned (.bool (!decide (s.fu = 0))) ∧ RefAt w' S bm (tick s) ∧ OnlyS (fun i => i = bm) w w' := by
  obtain ⟨⟨vS, vL, hT, hrS, hrL⟩, hoff⟩ := h
  have hc2 : w.cell? ⟨bm, 2, none⟩ = some (.int .i64 s.fu) := hT.cell 2
  have hc3 : w.cell? ⟨bm, 3, none⟩ = some (.int .i64 s.st) := hT.cell 3
  have hfz2 := hT.frozen 2
  have hfz3 := hT.frozen 3
  have hfz4 := hT.frozen 4
  have hc4 : w.cell? ⟨bm, 4, none⟩ = some (.bool s.dn) := hT.cell 4
  have HT := Lib.hid hT
  have HS := Lib.hid hrS
  have HL := Lib.hid hrL
  have HO := Lib.hid hoff
  clear hT hrS hrL hoff
  obtain ⟨l, k, st, fu, dn⟩ := s
  simp only at hc2 hc3 hc4 hd hf1 hf2 HT HS HL
  subst hd
  by_cases hf : fu = 0
  · subst hf
    have ho := (OnlyS.refl (fun i => i = bm) w).setCell (p := ⟨bm, 4, none⟩) (.inl rfl) (.bool true)
    have HP := Lib.hid (RefAt.mine HS.out HL.out ho HO.out st 0 true (HT.out.set_ 4 (.bool true)))
    have HQ := Lib.hid ho
    clear ho
    go_enter Try.func29, Try.ntmps29
    go_wp2
    go_ret
    exact ⟨rfl, by unfold tick; rw [if_pos rfl]; exact HP.out, HQ.out⟩
  · by_cases hp : 0 < fu
    · have ho := ((OnlyS.refl (fun i => i = bm) w).setCell (p := ⟨bm, 2, none⟩) (.inl rfl) (.int .i64 (fu - 1))).setCell (p := ⟨bm, 3, none⟩) (.inl rfl) (.int .i64 (wrap64 (st + 1)))
      have HP := Lib.hid (RefAt.mine HS.out HL.out ho HO.out (wrap64 (st + 1)) (fu - 1) false ((HT.out.set_ 2 (.int .i64 (fu - 1))).set_ 3 (.int .i64 (wrap64 (st + 1)))))
      have HQ := Lib.hid ho
      clear ho
      go_enter Try.func29, Try.ntmps29
      go_wp2
      go_ret
      exact ⟨by simp [hf], by unfold tick; rw [if_neg hf]; unfold burn; rw [if_pos hp]; exact HP.out, HQ.out⟩
    · have ho := (OnlyS.refl (fun i => i = bm) w).setCell (p := ⟨bm, 3, none⟩) (.inl rfl) (.int .i64 (wrap64 (st + 1)))
      have HP := Lib.hid (RefAt.mine HS.out HL.out ho HO.out (wrap64 (st + 1)) fu false (HT.out.set_ 3 (.int .i64 (wrap64 (st + 1)))))
      have HQ := Lib.hid ho
      clear ho
      go_enter Try.func29, Try.ntmps29
      go_wp2
      go_ret
      exact ⟨by simp, by unfold tick; rw [if_neg hf]; unfold burn; rw [if_neg (by show ¬ (0 < fu); omega)]; exact HP.out, HQ.out⟩
end Go.Proofs.Ytjkpdfdcjhnjdaa
