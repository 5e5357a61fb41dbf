/-
  slices.Delete of one payment of one's own row.
-/
import Derived.Test.YtkiifjkcpangfaaPacN
import Derived.ArgAppend
import Derived.Deep.RegionLaw
namespace Go.Proofs.Ytkiifjkcpangfaa
open Go.RowKit
set_option linter.unusedVariables false

theorem Blk.cells_set {g : Nat} {t : TypeId} : ∀ (vs : List Value) (w : World) (pre old tail : List Value), old.length = vs.length → Blk w g t (pre ++ (old ++ tail)) → Blk (w.setCells g pre.length vs) g t (pre ++ (vs ++ tail))
  | [], w, pre, old, tail, hl, h => by
    have : old = [] := List.eq_nil_of_length_eq_zero (by simpa using hl)
    subst this
    exact h
  | v :: r, w, pre, [], tail, hl, h => by simp at hl
  | v :: r, w, pre, x :: old, tail, hl, h => by
    have h1 := h.set_ pre.length v
    rw [List.set_append_right _ _ (Nat.le_refl _), Nat.sub_self, List.cons_append, List.set_cons_zero] at h1
    have h2 := Blk.cells_set r (w.setCell ⟨g, pre.length, none⟩ v) (pre ++ [v]) old tail (by simpa using hl) (by simpa using h1)
    simp only [List.length_append, List.length_cons, List.length_nil, List.append_assoc, List.cons_append, List.nil_append] at h2
    exact h2
theorem only_setCells {a : World} {g : Nat} : ∀ (vs : List Value) (o : Nat) (w : World), a.grownBy w (some g) → a.grownBy (w.setCells g o vs) (some g)
  | [], _, _, h => h
  | v :: r, o, w, h => only_setCells r (o + 1) _ (only_setCell (p := ⟨g, o, none⟩) h (.inl rfl) v)
section
variable {P : Program} {w : World} {ops : Array Oper} {rest : List Oper} {o : Oper} {a : Act} {Q : Exit → Act → World → Prop}
theorem wpList_clear_run_ (hgd : o.guard = none) (x : Operand) (t : TypeId) (ho : o.op = .call { callee := .builtin .clear, args := #[x], argTypes := #[t] }) (W : World)
    (hb : ∀ ty, (Builtin.clear_ #[t] ty #[a.eval x]).run P w = .ok (.tuple #[]) W) (h : wpList P ops Q rest (a.put o.dst (.tuple #[])) W) : wpList P ops Q (o :: rest) a w := by
  refine wpList_plain hgd fun K hK => ?_
  have hrun := hb o.type
  unfold Oper.wp
  simp [execOp, ho, resolve, invoke, builtin, hrun, Result.andThen]
  exact hK _ _ h
end
theorem run_clear_one (w : World) (ty : TypeId) (g o c : Nat) (L : List Value) (hB : Blk w g 60 L) (ho : o + 36 ≤ L.length) :
    (Builtin.clear_ #[29] ty #[.slice (some ⟨g, o, none⟩) 1 c]).run Try.prog w = .ok (.tuple #[]) (w.setCells g o cz.toList) := by
  obtain ⟨i0, hi, hz0, hz1, hz2⟩ := info_parts zinfo60
  have hzv : ∀ w, (zeroValue 60).run Try.prog w = .ok (.agg cz) w := fun w => by simp [zeroValue, typeInfo, hi, hz0]
  have hzc : (Builtin.zeroCells (Value.agg cz).cells 1).toList = cz.toList := by kernel_rfl
  have hst := run_storeCells_cells (P := Try.prog) g o cz.toList 0 w (fun j hj => by rw [Nat.add_zero]; have h : j < 36 := hj; exact (hB.there o 36 ho j h).1) (fun j hj => hB.frozen _) (by intro v hv; exact cnd0.one v hv)
  simp only [Nat.add_zero] at hst
  simp [Builtin.clear_, run_underlying Try.underlying29, hzv, hzc, hst]
theorem cflat_append (a b : List Cnd) : cflat (a ++ b) = cflat a ++ cflat b := by simp [cflat]
theorem eraseIdx_flat (cs : List Cnd) (j : Nat) (hj : j < cs.length) : cflat (cs.take j) ++ cflat (cs.drop (j + 1)) = cflat (cs.eraseIdx j) := by
  rw [List.eraseIdx_eq_take_drop_succ]
  simp [cflat]
theorem eraseIdx_ok {cs : List Cnd} (h : ∀ c ∈ cs, c.Ok) (j : Nat) : ∀ c ∈ cs.eraseIdx j, c.Ok := fun c hc => h c (List.mem_of_mem_eraseIdx hc)

set_option maxRecDepth 100000 in
set_option maxHeartbeats 4000000 in
theorem delete_any (g j j1 n cap base : Nat) (cs : List Cnd) (w : World) (hO : w.ownsRow base 60 36 (.slice (some ⟨g, 0, none⟩) n cap) n (cflat cs)) (hok : ∀ c ∈ cs, c.Ok) (hl : cs.length = n) (hn : n ≤ 1000) (hj : j < n) (hj1 : j1 = j + 1) :
    Calls Try.prog 54 #[.slice (some ⟨g, 0, none⟩) n cap, .int .i64 (j : Int), .int .i64 (j1 : Int)] w fun e w' => ∃ m, m + 1 = n ∧ e = .returned (.slice (some ⟨g, 0, none⟩) m cap) ∧ w'.ownsRow base 60 36 (.slice (some ⟨g, 0, none⟩) m cap) m (cflat (cs.eraseIdx j)) ∧ w.grownBy w' (some g) := by
  have hfl := cflat_length cs hok
  obtain ⟨cur, hbg, hg, hnc, hcm, hcs, htk⟩ : ∃ cur : Array Value, base ≤ g ∧ w.heap[g]? = some (.cells cur 60 (0, 0)) ∧ n ≤ cap ∧ cap ≤ maxLen ∧ cur.size = cap * 36 ∧ cur.toList.take (n * 36) = cflat cs := by
    rcases hO.2 with ⟨h, _⟩ | ⟨g', cap', cur, h, hb, hg, h1, h2, h3, h4⟩
    · cases h
    · injection h with h5 h6 h7
      injection h5 with h5
      injection h5 with h5
      subst h5
      subst h7
      exact ⟨cur, hb, hg, h1, h2, h3, h4⟩
  obtain ⟨m, hm⟩ : ∃ m, m = j + (n - j1) := ⟨_, rfl⟩
  have hmn : m + 1 = n := by omega
  obtain ⟨L, hL⟩ : ∃ L, cur.toList = L := ⟨_, rfl⟩
  have hB : Blk w g 60 L := by unfold Blk; rw [← hL]; exact hg
  have hLl : L.length = cap * 36 := by rw [← hL]; simpa using hcs
  rw [hL] at htk
  have hcapm : cap ≤ 9223372036854775807 := by unfold maxLen at hcm; omega
  -- the parts of the row
  obtain ⟨pre, hpre⟩ : ∃ x, cflat (cs.take j) = x := ⟨_, rfl⟩
  obtain ⟨news, hnews⟩ : ∃ x, cflat (cs.drop j1) = x := ⟨_, rfl⟩
  have hprel : pre.length = j * 36 := by rw [← hpre, cflat_length _ (fun c hc => hok c (List.mem_of_mem_take hc)), List.length_take]; omega
  have hnewl : news.length = (n - j1) * 36 := by rw [← hnews, cflat_length _ (fun c hc => hok c (List.mem_of_mem_drop hc)), List.length_drop]; omega
  have hLpre : L.take (j * 36) = pre := by
    have h1 : (L.take (n * 36)).take (j * 36) = L.take (j * 36) := by rw [List.take_take]; congr 1; omega
    rw [← h1, htk, ← hpre, ← List.take_append_drop j cs, cflat_append, List.take_append_drop, List.take_left' (by rw [hpre]; exact hprel)]
  have hLnews : (L.drop (j1 * 36)).take ((n - j1) * 36) = news := by
    have h1 : ((L.take (n * 36)).drop (j1 * 36)) = (L.drop (j1 * 36)).take ((n - j1) * 36) := by rw [List.drop_take]; congr 1; omega
    rw [← h1, htk, ← hnews, ← List.take_append_drop j1 cs, cflat_append, List.take_append_drop, List.drop_left' (by rw [cflat_length _ (fun c hc => hok c (List.mem_of_mem_take hc)), List.length_take]; omega)]
  obtain ⟨old, hold⟩ : ∃ x, (L.drop (j * 36)).take ((n - j1) * 36) = x := ⟨_, rfl⟩
  obtain ⟨tail, htail⟩ : ∃ x, (L.drop (j * 36)).drop ((n - j1) * 36) = x := ⟨_, rfl⟩
  have hLsplit : L = pre ++ (old ++ tail) := by rw [← hold, ← htail, List.take_append_drop, ← hLpre, List.take_append_drop]
  have holdl : old.length = news.length := by rw [← hold, List.length_take, List.length_drop, hLl, hnewl]; omega
  have htaill : 36 ≤ tail.length := by rw [← htail, List.length_drop, List.length_drop, hLl]; omega
  have hone : ∀ u ∈ news, u.oneCell' = true := by rw [← hnews]; exact cflat_one _
  -- where the others lie
  obtain ⟨Ad, hAd, hsrc⟩ : ∃ Ad : Addr, (if cap = j1 then (⟨g, 0, none⟩ : Addr) else ⟨g, j1 * 36, none⟩) = Ad ∧ ∀ W, Blk W g 60 L → ∀ t u, news[t]? = some u → W.cell? (Ad.add t) = some u := by
    by_cases h : cap = j1
    · refine ⟨⟨g, 0, none⟩, by rw [if_pos h], fun W hW t u hu => ?_⟩
      have h0 : news.length = 0 := by rw [hnewl]; omega
      rw [List.length_eq_zero_iff.1 h0] at hu
      simp at hu
    · refine ⟨⟨g, j1 * 36, none⟩, by rw [if_neg h], fun W hW t u hu => ?_⟩
      rw [Go.WideShapes.add_plain, hW.cell]
      rw [← hLnews, List.getElem?_take] at hu
      split at hu
      · rw [List.getElem?_drop] at hu; exact hu
      · cases hu
  obtain ⟨i0, hi, hz0, hz1, hz2⟩ := info_parts zinfo60
  obtain ⟨X13, hX13⟩ : ∃ X, ∀ W, (Instr.slice 29 (.slice (some ⟨g, 0, none⟩) n cap) (some (.int .i64 (j : Int))) (some (.int .i64 (j1 : Int))) (some (.int .i64 (n : Int)))).run Try.prog W = .ok X W := by
    refine ⟨sliced (some ⟨g, 0, none⟩) j j1 n 36, fun W => ?_⟩
    rw [run_slice_lhm (P := Try.prog) W 29 _ n cap (by kernel_rfl) .i64 .i64 .i64 (j : Int) (j1 : Int) (n : Int) (by omega) (by omega) (by omega) (by omega), show Try.prog.elem 29 = 60 by kernel_rfl]
    simp [sizeOf, typeInfo, hi, hz1]
  have hX22 : ∀ W, (Instr.slice 29 (.slice (some ⟨g, 0, none⟩) n cap) none (some (.int .i64 (j : Int))) none).run Try.prog W = .ok (.slice (some ⟨g, 0, none⟩) j cap) W := fun W => by
    rw [run_slice_h (P := Try.prog) W 29 _ n cap (by kernel_rfl) .i64 (j : Int) (by omega) (by omega), show Try.prog.elem 29 = 60 by kernel_rfl]
    simp [sizeOf, typeInfo, hi, sliced, Go.WideShapes.add_plain]
  have hX25 : ∀ W, (Instr.slice 29 (.slice (some ⟨g, 0, none⟩) n cap) (some (.int .i64 (j1 : Int))) none none).run Try.prog W = .ok (.slice (some Ad) (n - j1) (cap - j1)) W := fun W => by
    rw [run_slice_l (P := Try.prog) W 29 _ n cap (by kernel_rfl) .i64 (j1 : Int) (by omega) (by omega), show Try.prog.elem 29 = 60 by kernel_rfl, ← hAd]
    by_cases h : cap = j1
    · simp [sizeOf, typeInfo, hi, sliced, h]
    · simp [sizeOf, typeInfo, hi, hz1, sliced, h, Go.WideShapes.add_plain]
  have hX31 : ∀ W, (Instr.slice 29 (.slice (some ⟨g, 0, none⟩) m cap) (some (.int .i64 (m : Int))) (some (.int .i64 (n : Int))) none).run Try.prog W = .ok (.slice (some ⟨g, m * 36, none⟩) 1 (cap - m)) W := fun W => by
    rw [run_slice_lh (P := Try.prog) W 29 _ m cap (by kernel_rfl) .i64 .i64 (m : Int) (n : Int) (by omega) (by omega) (by omega), show Try.prog.elem 29 = 60 by kernel_rfl]
    have h : ¬ cap = m := by omega
    have h2 : n - m = 1 := by omega
    simp [sizeOf, typeInfo, hi, hz1, sliced, h, h2, Go.WideShapes.add_plain]
  have HAP : Hid (∀ W, Blk W g 60 L → ∀ ty, (Builtin.append_ #[29, 29] ty #[.slice (some ⟨g, 0, none⟩) j cap, .slice (some Ad) (n - j1) (cap - j1)]).run Try.prog W = .ok (.slice (some ⟨g, 0, none⟩) m cap) (W.setCells g (j * 36) news)) := Lib.hid fun W hW ty => by
    have := run_append_room_cells (P := Try.prog) W 29 ty 60 i0 Try.underlying29 hi g 0 j cap Ad (n - j1) (cap - j1) news (by rw [hz1]; exact hnewl) (hsrc W hW) hone (by omega) (fun q hq => by rw [hz1, Nat.zero_add]; exact (hW.there (j * 36) news.length (by rw [hLl, hnewl]; omega) q hq).1) (fun q hq => hW.frozen _)
    rw [hz1, Nat.zero_add, ← hm] at this
    exact this
  have HB2 : Hid (∀ W, Blk W g 60 L → Blk (W.setCells g (j * 36) news) g 60 (pre ++ (news ++ tail))) := Lib.hid fun W hW => by
    rw [hLsplit] at hW
    have := Blk.cells_set news W pre old tail holdl hW
    rwa [hprel] at this
  have hmm : m * 36 = j * 36 + (n - j1) * 36 := by rw [hm]; omega
  have HCL : Hid (∀ W, Blk W g 60 (pre ++ (news ++ tail)) → ∀ ty, (Builtin.clear_ #[29] ty #[.slice (some ⟨g, m * 36, none⟩) 1 (cap - m)]).run Try.prog W = .ok (.tuple #[]) (W.setCells g (m * 36) cz.toList)) := Lib.hid fun W hW ty =>
    run_clear_one W ty g (m * 36) (cap - m) _ hW (by simp only [List.length_append, hprel, hnewl]; omega)
  have HB3 : Hid (∀ W, Blk W g 60 (pre ++ (news ++ tail)) → Blk (W.setCells g (m * 36) cz.toList) g 60 ((pre ++ news) ++ (cz.toList ++ tail.drop 36))) := Lib.hid fun W hW => by
    have h1 : pre ++ (news ++ tail) = (pre ++ news) ++ (tail.take 36 ++ tail.drop 36) := by rw [List.take_append_drop, List.append_assoc]
    rw [h1] at hW
    have := Blk.cells_set cz.toList W (pre ++ news) (tail.take 36) (tail.drop 36) (by rw [List.length_take]; show min 36 tail.length = 36; omega) hW
    rwa [List.length_append, hprel, hnewl, ← hmm] at this
  have HOWN : Hid (∀ W, Blk W g 60 ((pre ++ news) ++ (cz.toList ++ tail.drop 36)) → W.ownsRow base 60 36 (.slice (some ⟨g, 0, none⟩) m cap) m (cflat (cs.eraseIdx j))) := Lib.hid fun W hW => by
    have he : cflat (cs.eraseIdx j) = pre ++ news := by rw [← eraseIdx_flat cs j (by omega), hpre, ← hj1, hnews]
    have hpl : (pre ++ news).length = m * 36 := by rw [List.length_append, hprel, hnewl, hmm]
    refine ⟨by rw [he, hpl], .inr ⟨g, cap, _, rfl, hbg, hW, by omega, hcm, ?_, ?_⟩⟩
    · have h36 : cz.toList.length = 36 := rfl
      have h2 : tail.length = cap * 36 - j * 36 - (n - j1) * 36 := by rw [← htail, List.length_drop, List.length_drop, hLl]
      rw [List.size_toArray, List.length_append, hpl, List.length_append, h36, List.length_drop]
      omega
    · rw [he, List.take_left' hpl]
  have HBW := Lib.hid hB
  have HM := Lib.hid hmn
  have hjn : ¬ ((j : Int) = (j1 : Int)) := by omega
  have bjn : ((j : Int) == (j1 : Int)) = false := by simpa using hjn
  have HJ := Lib.hid hj1
  clear hj1 hO hfl hg hcs htk hm hmn hL hB hLl hpre hnews hprel hnewl hLpre hLnews hold htail hLsplit holdl htaill hone hAd hsrc hi hz0 hz1 hz2 hmm hjn hcm hok hl
  go_enter Try.func54, Try.ntmps54
  go_upto_region 5 with fail
  have BB := HBW
  have GG : Hid (w.grownBy w (some g)) := Lib.hid (only_refl w _)
  clear HBW
  have hBz : Below w.heap.size w w.drew := below_drewN (Below.refl _ _) 1
  have BBX0 : Hid (Blk w.drew g 60 L) := Lib.hid (BB.out.below hBz BB.out.lt)
  have GGX0 : Hid (w.grownBy w.drew (some g)) := Lib.hid (only_below GG.out hBz)
  clear hBz
  refine wp_region_held_drew (S := fun w' => True) (by kernel_rfl) (trivial) (fun hHeld => ?_)
  generalize w.drew = X0 at hHeld BBX0 GGX0 ⊢
  refine wpAnyH_take (i := 0) (v := .slice (some ⟨g, 0, none⟩) n cap) rfl (by kernel_rfl) (by kernel_rfl) (by kernel_rfl) (fun _ _ _ h => h) (Or.inl ⟨by rfl, fun w _ => by rfl⟩) hHeld ?_
  show wpAnyH _ _ _ _ _ _ _ (Act.put _ (some 20) _) _
  simp only [Act.put, List.setIfInBounds_toArray, List.set_cons_zero, List.set_cons_succ]
  refine wpAnyH_take (i := 1) (v := .int .i64 (j : Int)) rfl (by kernel_rfl) (by kernel_rfl) (by kernel_rfl) (fun _ _ _ h => h) (Or.inl ⟨by rfl, fun w _ => by rfl⟩) hHeld ?_
  show wpAnyH _ _ _ _ _ _ _ (Act.put _ (some 21) _) _
  simp only [Act.put, List.setIfInBounds_toArray, List.set_cons_zero, List.set_cons_succ]
  refine wpAnyH_take (i := 2) (v := .slice (some ⟨g, 0, none⟩) j cap) rfl (by kernel_rfl) (by kernel_rfl) (by kernel_rfl) (fun _ _ _ h => h) (Or.inl ⟨by rfl, by intro w' h; have := hX22 w'; go_simp⟩) hHeld ?_
  show wpAnyH _ _ _ _ _ _ _ (Act.put _ (some 22) _) _
  simp only [Act.put, List.setIfInBounds_toArray, List.set_cons_zero, List.set_cons_succ]
  refine wpAnyH_take (i := 3) (v := .slice (some ⟨g, 0, none⟩) n cap) rfl (by kernel_rfl) (by kernel_rfl) (by kernel_rfl) (fun _ _ _ h => h) (Or.inl ⟨by rfl, fun w _ => by rfl⟩) hHeld ?_
  show wpAnyH _ _ _ _ _ _ _ (Act.put _ (some 23) _) _
  simp only [Act.put, List.setIfInBounds_toArray, List.set_cons_zero, List.set_cons_succ]
  refine wpAnyH_take (i := 4) (v := .int .i64 (j1 : Int)) rfl (by kernel_rfl) (by kernel_rfl) (by kernel_rfl) (fun _ _ _ h => h) (Or.inl ⟨by rfl, fun w _ => by rfl⟩) hHeld ?_
  show wpAnyH _ _ _ _ _ _ _ (Act.put _ (some 24) _) _
  simp only [Act.put, List.setIfInBounds_toArray, List.set_cons_zero, List.set_cons_succ]
  refine wpAnyH_take (i := 5) (v := .slice (some Ad) (n - j1) (cap - j1)) rfl (by kernel_rfl) (by kernel_rfl) (by kernel_rfl) (fun _ _ _ h => h) (Or.inl ⟨by rfl, by intro w' h; have := hX25 w'; go_simp⟩) hHeld ?_
  show wpAnyH _ _ _ _ _ _ _ (Act.put _ (some 25) _) _
  simp only [Act.put, List.setIfInBounds_toArray, List.set_cons_zero, List.set_cons_succ]
  refine wpAnyH_ready (rs := [6]) (by kernel_rfl) (by simp) ?_
  refine AllReadyH.cons rfl (fun K hK => ?_) AllReadyH.nil
  refine step_append rfl (.tmp 22) (.tmp 25) 29 29 rfl (.slice (some ⟨g, 0, none⟩) m cap) (X0.setCells g (j * 36) news) (HAP.out X0 BBX0.out) ?_
  have hN := HB2.out X0 BBX0.out
  have hG := only_setCells news (j * 36) X0 GGX0.out
  generalize X0.setCells g (j * 36) news = X1 at hN hG ⊢
  have NNX1 : Hid (Blk X1 g 60 (pre ++ (news ++ tail))) := Lib.hid (hN)
  have GGX1 : Hid (w.grownBy X1 (some g)) := Lib.hid (hG)
  clear  hN hG BBX0 GGX0
  refine hK.out _ _ (trivial) (fun hHeld => ?_)
  clear hK K
  show wpAnyH _ _ _ _ _ _ _ (Act.put _ (some 26) _) _
  simp only [Act.put, List.setIfInBounds_toArray, List.set_cons_zero, List.set_cons_succ]
  refine wpAnyH_take (i := 7) (v := .slice (some ⟨g, 0, none⟩) m cap) rfl (by kernel_rfl) (by kernel_rfl) (by kernel_rfl) (fun _ _ _ h => h) (Or.inl ⟨by rfl, fun w _ => by rfl⟩) hHeld ?_
  show wpAnyH _ _ _ _ _ _ _ (Act.put _ (some 0) _) _
  simp only [Act.put, List.setIfInBounds_toArray, List.set_cons_zero]
  refine wpAnyH_done (by kernel_rfl) ?_ _
  clear hHeld hX13 hX22 hX25
  have hcl := HCL.out X1 NNX1.out
  go_wp2
  go_ret
  exact ⟨m, HM.out, rfl, HOWN.out _ (HB3.out X1 NNX1.out), only_setCells _ _ _ GGX1.out⟩
end Go.Proofs.Ytkiifjkcpangfaa
