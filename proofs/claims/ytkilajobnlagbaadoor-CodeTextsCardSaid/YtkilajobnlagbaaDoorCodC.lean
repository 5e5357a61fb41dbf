/-
  A run's stack: lay, layAmount, layTruth.
-/
import Derived.Test.YtkilajobnlagbaaDoorCodB
namespace Go.Proofs.YtkilajobnlagbaaDoor
open Go.RowKit
set_option linter.unusedVariables false

theorem wpList_append_v {P : Program} {w : World} {ops : Array Oper} {rest : List Oper} {o : Oper} {a : Act} {Q : Exit → Act → World → Prop} (hgd : o.guard = none) (s x : Operand) (t t2 : TypeId) (ho : o.op = .call { callee := .builtin .append, args := #[s, x], argTypes := #[t, t2] }) (v : Value) (W : World)
    (hb : (Builtin.append_ #[t, t2] o.type #[a.eval s, a.eval x]).run P w = .ok v W) (h : wpList P ops Q rest (a.put o.dst v) W) : wpList P ops Q (o :: rest) a w := by
  refine wpList_plain hgd fun K hK => ?_
  unfold Oper.wp
  have e : (execOp a.eval o).run P w = .ok (.value v) W := by
    unfold execOp
    simp only [ho, resolve, invoke, builtin, Sem.run_bind, Sem.run_pure, Result.andThen_ok, List.map_toArray, List.map_cons, List.map_nil, hb]
  rw [e]
  exact hK _ _ h
def layE (l ls : List Int) : Int := if 32 < l.length + ls.length then 4 else 0
def layL (l ls : List Int) : List Int := if 32 < l.length + ls.length then l else l ++ ls
/-- What lay leaves. -/
def LayPost (gs base : Nat) (E : Int) (L : List Int) (w : World) (e : Ending) (w' : World) : Prop := e = .returned (.int .i64 E) ∧ Stk w' gs base L ∧ Turn base w w'
theorem own_ne {w : World} {gs base n : Nat} {v u : Value} {xs : List Value} (hB : Blk w gs 54 [u]) (hO : w.ownsRow base 25 1 v n xs) : some gs ≠ v.ownBlock := by
  rcases hO.2 with ⟨rfl, _⟩ | ⟨g, cap, cur, rfl, _, hg, _⟩
  · simp [Value.ownBlock]
  · intro h
    have : gs = g := by simpa [Value.ownBlock] using h
    subst this
    unfold Blk at hB
    rw [hB] at hg
    injection hg with hg
    injection hg with _ hg
    exact absurd hg (by decide)

set_option maxRecDepth 100000 in
set_option maxHeartbeats 2000000 in
theorem lay_any (gs base ga m : Nat) (l ls : List Int) (w : World) (HS : Hid (Stk w gs base l)) (hb : base ≤ gs) (HA : Hid (Blk w ga 25 (u64s ls))) (hm : ls.length = m) (hl : l.length ≤ 32) (hm2 : m ≤ 2) :
    Calls Tryd.prog 38 #[.pointer (some ⟨gs, 0, none⟩), .slice (some ⟨ga, 0, none⟩) m m] w (LayPost gs base (layE l ls) (layL l ls) w) := by
  obtain ⟨v, hB, hO⟩ := HS.out.ex
  have c0 : w.cell? ⟨gs, 0, none⟩ = some v := hB.cell 0
  have hbw : base ≤ w.heap.size := Nat.le_trans hb (Nat.le_of_lt hB.lt)
  obtain ⟨n, hn⟩ : ∃ n, l.length = n := ⟨_, rfl⟩
  obtain ⟨A, cp, rfl⟩ : ∃ A cp, v = .slice A n cp := by
    rcases hO.2 with ⟨rfl, h⟩ | ⟨g, cap, cur, rfl, _⟩
    · exact ⟨none, 0, by rw [← hn, h]⟩
    · exact ⟨_, _, by rw [hn]⟩
  have n0 : (0 : Int) ≤ (n : Int) := Int.natCast_nonneg _
  have n1 : (n : Int) ≤ 32 := by omega
  have m0 : (0 : Int) ≤ (m : Int) := Int.natCast_nonneg _
  have m1 : (m : Int) ≤ 2 := by omega
  by_cases h : 32 < n + m
  · have e1 : layE l ls = 4 := by unfold layE; rw [if_pos (by omega)]
    have e2 : layL l ls = l := by unfold layL; rw [if_pos (by omega)]
    rw [e1, e2]
    have d1 : decide (32 < (n : Int) + (m : Int)) = true := decide_eq_true (by omega)
    clear e1 e2 hO hB h
    go_enter Tryd.func38, Tryd.ntmps38
    go_wp2
    go_ret
    exact ⟨rfl, HS.out, Turn.refl _ _⟩
  · have e1 : layE l ls = 0 := by unfold layE; rw [if_neg (by omega)]
    have e2 : layL l ls = l ++ ls := by unfold layL; rw [if_neg (by omega)]
    rw [e1, e2]
    obtain ⟨i0, hi, hzz⟩ := Option.map_eq_some_iff.1 info25
    simp only [Prod.mk.injEq] at hzz
    obtain ⟨hz0, hz1, hz2⟩ := hzz
    obtain ⟨v2, Y, hr, h2, h3, h4, h5⟩ := run_append_own_at (P := Tryd.prog) w base 23 23 25 i0 (.int .u64 0) 1 8 Tryd.underlying23 hi hz0 hz1 hz2 rfl (by omega) _ l.length (u64s l) hO ⟨ga, 0, none⟩ m m (u64s ls) (by rw [u64s_length, hm]; omega)
      (fun j u hu => by rw [Go.WideShapes.add_plain, Nat.zero_add, HA.out.cell]; exact hu) (u64s_one ls) (by unfold maxLen; omega) (by omega) hbw
    obtain ⟨A2, q2, c2, rfl⟩ : ∃ A q c, v2 = .slice A q c := by
      rcases h2.2 with ⟨hv, _⟩ | ⟨g, cap, cur, hv, _⟩
      · exact ⟨_, _, _, hv⟩
      · exact ⟨_, _, _, hv⟩
    have hne := own_ne hB hO
    have hY : Blk Y gs 54 [.slice A n cp] := hB.grown h3 hne
    have fY := hY.frozen 0
    have cY : Y.cell? ⟨gs, 0, none⟩ = some (.slice A n cp) := hY.cell 0
    have hTY : Turn base w Y := by
      rcases hO.2 with ⟨hv, _⟩ | ⟨g, cap, cur, hv, hg, hgb, _⟩
      · rw [hv] at h3
        simp only [Value.ownBlock] at h3
        exact Turn.new hbw ⟨h3.os, h3.tape, h3.output, h3.size, fun k hk => h3.block k hk (by simp)⟩
      · rw [hv] at h3
        simp only [Value.ownBlock] at h3
        exact Turn.one (cs := cur.toList) hbw hg (by unfold Blk; simpa using hgb) (.inl rfl) h3
    have hS2 : Stk (Y.setCell ⟨gs, 0, none⟩ (.slice A2 q2 c2)) gs base (l ++ ls) := by
      refine ⟨_, hY.set_ 0 _, ?_⟩
      rw [List.length_append, hm]
      have e3 : u64s (l ++ ls) = u64s l ++ u64s ls := by simp [u64s]
      rw [e3]
      refine h2.kept (only_setCell (p := ⟨gs, 0, none⟩) (only_refl Y (some gs)) (.inl rfl) (.slice A2 q2 c2)) ?_
      have := own_ne hY h2
      exact .inr (fun e => this e.symm)
    have hT2 : Turn base w (Y.setCell ⟨gs, 0, none⟩ (.slice A2 q2 c2)) := hTY.trans (Turn.one (Nat.le_trans hbw h3.size) hb hY (.inr rfl) (only_setCell (p := ⟨gs, 0, none⟩) (only_refl Y (some gs)) (.inl rfl) (.slice A2 q2 c2)))
    have d1 : decide (32 < (n : Int) + (m : Int)) = false := decide_eq_false (by omega)
    have HST := Lib.hid (And.intro hS2 hT2)
    clear e1 e2 hO hB h h2 h3 h4 h5 hne hY hTY hS2 hT2 hi hz0 hz1 hz2
    go_enter Tryd.func38, Tryd.ntmps38
    go_wp2_with (at_builtin; refine wpList_append_v rfl (.tmp 18) (.tmp 19) 23 23 rfl (.slice A2 q2 c2) Y hr ?_)
    go_ret
    exact ⟨rfl, HST.out⟩

set_option maxRecDepth 100000 in
set_option maxHeartbeats 2000000 in
theorem layTruth_any (gs base : Nat) (b : Bool) (l : List Int) (w : World) (HS : Hid (Stk w gs base l)) (hb : base ≤ gs) (hl : l.length ≤ 32) :
    Calls Tryd.prog 43 #[.pointer (some ⟨gs, 0, none⟩), .bool b] w (LayPost gs base (layE l [if b then 1 else 0]) (layL l [if b then 1 else 0]) w) := by
  have hbw : base ≤ w.heap.size := Nat.le_trans hb (Nat.le_of_lt HS.out.lt)
  have key : ∀ x : Int, Calls Tryd.prog 38 #[.pointer (some ⟨gs, 0, none⟩), .slice (some ⟨w.heap.size, 0, none⟩) 1 1] (w.alloc (.cells #[.int .u64 x] 25)) (LayPost gs base (layE l [x]) (layL l [x]) w) := fun x => by
    have hB : Below w.heap.size w (w.alloc (.cells #[.int .u64 x] 25)) := (Below.refl _ _).alloc (Nat.le_refl _) _
    refine (lay_any gs base w.heap.size 1 l [x] _ (Lib.hid (HS.out.below hB)) hb (Lib.hid (Blk.new w 25 (u64s [x]))) rfl hl (by omega)).mono ?_
    rintro e w' ⟨rfl, hs, hT⟩
    exact ⟨rfl, hs, (Turn.new hbw hB).trans hT⟩
  have HK := Lib.hid key
  cases b
  · go_enter Tryd.func43, Tryd.ntmps43
    go_wp2_with fail
    refine (HK.out 0).mono ?_
    rintro e w' ⟨rfl, hs, hT⟩
    have H := Lib.hid (And.intro hs hT)
    clear hs hT
    go_wp2
    go_ret
    exact ⟨rfl, H.out⟩
  · go_enter Tryd.func43, Tryd.ntmps43
    go_wp2_with fail
    refine (HK.out 1).mono ?_
    rintro e w' ⟨rfl, hs, hT⟩
    have H := Lib.hid (And.intro hs hT)
    clear hs hT
    go_wp2
    go_ret
    exact ⟨rfl, H.out⟩
set_option maxRecDepth 100000 in
set_option maxHeartbeats 2000000 in
theorem layAmount_any (gs base : Nat) (x E : Int) (l : List Int) (w : World) (HS : Hid (Stk w gs base l)) (hb : base ≤ gs) (hl : l.length ≤ 32) :
    Calls Tryd.prog 39 #[.pointer (some ⟨gs, 0, none⟩), .int .u64 x, .int .i64 E] w (LayPost gs base (if E = 0 then layE l [x] else E) (if E = 0 then layL l [x] else l) w) := by
  have hbw : base ≤ w.heap.size := Nat.le_trans hb (Nat.le_of_lt HS.out.lt)
  by_cases hE : E = 0
  · subst hE
    rw [if_pos rfl, if_pos rfl]
    have hB : Below w.heap.size w (w.alloc (.cells #[.int .u64 x] 25)) := (Below.refl _ _).alloc (Nat.le_refl _) _
    have HK := Lib.hid (lay_any gs base w.heap.size 1 l [x] _ (Lib.hid (HS.out.below hB)) hb (Lib.hid (Blk.new w 25 (u64s [x]))) rfl hl (by omega))
    have HT := Lib.hid (Turn.new hbw hB)
    clear hB
    go_enter Tryd.func39, Tryd.ntmps39
    go_wp2_with fail
    refine HK.out.mono ?_
    rintro e w' ⟨rfl, hs, hT⟩
    have H := Lib.hid (And.intro hs (HT.out.trans hT))
    clear hs hT
    go_wp2
    go_ret
    exact ⟨rfl, H.out⟩
  · rw [if_neg hE, if_neg hE]
    go_enter Tryd.func39, Tryd.ntmps39
    go_wp2
    go_ret
    exact ⟨rfl, HS.out, Turn.refl _ _⟩
end Go.Proofs.YtkilajobnlagbaaDoor
