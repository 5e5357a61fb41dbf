/-
  The program's Reach (22): the nodes to which ways lead, rising.
-/
import Derived.Test.YtnnimjaigciedaaWebRe
import Derived.Test.YtnnimjaigciedaaSortS
namespace Go.Proofs.Ytnnimjaigciedaa
open Go.RowKit
set_option linter.unusedVariables false

/-- What has been found, and whose ways have all been looked at. -/
structure Bfs (es : List Ed) (amt node : Int) (sl : Nat) (l : List Int) (k : Nat) : Prop where
  nd : l.Nodup
  rch : ∀ x ∈ l, Rch es amt node x
  here : node ∈ l
  done : ∀ i, i < k → ∀ y, Nx es amt (l.getD i 0) y → y ∈ l
  kl : k ≤ l.length
  good : 0 ≤ node ∧ node < (sl : Int)
theorem Bfs.le {es : List Ed} {amt node : Int} {sl k : Nat} {l : List Int} (h : Bfs es amt node sl l k) (hg : AllGood sl es ∧ sl ≤ 8) : l.length ≤ 8 :=
  Nat.le_trans (few sl l h.nd (fun x hx => rch_range hg.1 h.good (h.rch x hx))) hg.2
theorem Bfs.add {es : List Ed} {amt node t : Int} {sl k : Nat} {l : List Int} (h : Bfs es amt node sl l k) (hk : k < l.length) (ht : Nx es amt (l.getD k 0) t) (hm : t ∉ l) : Bfs es amt node sl (l ++ [t]) k where
  nd := by
    rw [List.nodup_append]
    exact ⟨h.nd, by simp, fun a ha b hb e => by simp at hb; subst hb; subst e; exact hm ha⟩
  rch := fun x hx => by
    rcases List.mem_append.1 hx with hx | hx
    · exact h.rch x hx
    · simp at hx
      subst hx
      refine .step (h.rch (l.getD k 0) ?_) ht
      rw [List.getD_eq_getElem?_getD, List.getElem?_eq_getElem hk]
      exact List.getElem_mem _
  here := List.mem_append_left _ h.here
  done := fun i hi y hy => by
    rw [List.getD_eq_getElem?_getD, List.getElem?_append_left (by omega), ← List.getD_eq_getElem?_getD] at hy
    exact List.mem_append_left _ (h.done i hi y hy)
  kl := by rw [List.length_append]; omega
  good := h.good
theorem Bfs.next {es : List Ed} {amt node : Int} {sl k : Nat} {l : List Int} (h : Bfs es amt node sl l k) (hk : k < l.length) (hs : ∀ y, Nx es amt (l.getD k 0) y → y ∈ l) : Bfs es amt node sl l (k + 1) :=
  ⟨h.nd, h.rch, h.here, fun i hi y hy => by
    rcases Nat.lt_or_eq_of_le (Nat.le_of_lt_succ hi) with h1 | rfl
    · exact h.done i h1 y hy
    · exact hs y hy, hk, h.good⟩
theorem Bfs.all {es : List Ed} {amt node : Int} {sl : Nat} {l : List Int} (h : Bfs es amt node sl l l.length) : ∀ x, x ∈ l ↔ Rch es amt node x := fun x => ⟨h.rch x, fun hx => by
  induction hx with
  | here => exact h.here
  | step _ h2 ih =>
    obtain ⟨i, hi, e⟩ := List.mem_iff_getElem.1 ih
    refine h.done i hi _ ?_
    rw [List.getD_eq_getElem?_getD, List.getElem?_eq_getElem hi, Option.getD_some, e]
    exact h2⟩
theorem own_keepI {w w' : World} {base n : Nat} {v : Value} {xs : List Value} (h : w.ownsRow base 3 1 v n xs) (hB : Below w.heap.size w w') : w'.ownsRow base 3 1 v n xs := by
  refine ⟨h.1, ?_⟩
  rcases h.2 with h1 | ⟨g, cap, cur, hv, hb, hg, rest⟩
  · exact .inl h1
  · have hlt : g < w.heap.size := by
      rcases Nat.lt_or_ge g w.heap.size with h2 | h2
      · exact h2
      · rw [Array.getElem?_eq_none h2] at hg; cases hg
    exact .inr ⟨g, cap, cur, hv, hb, (hB.block g hlt).trans hg, rest⟩
theorem own_keepG {w w' : World} {base size n : Nat} {e : TypeId} {v : Value} {xs : List Value} (h : w.ownsRow base e size v n xs) (hB : Below w.heap.size w w') : w'.ownsRow base e size v n xs := by
  refine ⟨h.1, ?_⟩
  rcases h.2 with h1 | ⟨g, cap, cur, hv, hb, hg, rest⟩
  · exact .inl h1
  · have hlt : g < w.heap.size := by
      rcases Nat.lt_or_ge g w.heap.size with h2 | h2
      · exact h2
      · rw [Array.getElem?_eq_none h2] at hg; cases hg
    exact .inr ⟨g, cap, cur, hv, hb, (hB.block g hlt).trans hg, rest⟩
/-- What another own row's append leaves. -/
theorem own_other {w w' : World} {base base' size size' n n' : Nat} {e e' : TypeId} {v v' : Value} {xs xs' : List Value} (h : w.ownsRow base e size v n xs) (k : w.ownsRow base' e' size' v' n' xs') (hne : e ≠ e') (hg : w.grownBy w' v'.ownBlock) : w'.ownsRow base e size v n xs := by
  refine ⟨h.1, ?_⟩
  rcases h.2 with h1 | ⟨g, cap, cur, hv, hb, hgg, rest⟩
  · exact .inl h1
  · have hB : Blk w g e cur.toList := by unfold Blk; simpa using hgg
    exact .inr ⟨g, cap, cur, hv, hb, by simpa [Blk] using hB.grown hg (own_ne hB k hne), rest⟩
theorem EdgeRow.below_ {w w' : World} {a : Option Addr} {l : List Ed} (h : EdgeRow w a l) (hB : Below w.heap.size w w') : EdgeRow w' a l := h.below hB

set_option maxRecDepth 100000 in
set_option maxHeartbeats 8000000 in
theorem reach_good (sa : Option Addr) (sl sc : Nat) (ea : Option Addr) (el ec : Nat) (es : List Ed) (node amt : Int) (w : World) (hE : EdgeRow w ea es) (hel : es.length = el) (hel2 : el ≤ 90) (hsl2 : sl ≤ 1000) (hc : checkE sl es = 0) (hn : 0 ≤ node ∧ node < (sl : Int)) :
    Calls Try.prog 22 #[.agg #[.slice sa sl sc, .slice ea el ec], .int .i64 node, .int .u64 amt] w fun e w' => ∃ a c l, e = .returned (.slice a l.length c) ∧ ReachP es amt node l ∧ IRow w' a l ∧ Below w.heap.size w w' := by
  have HE := Lib.hid hE
  have HEL := Lib.hid hel
  have hcc : (8 < sl ∨ 16 < es.length) = False ∧ AllGood sl es := by
    unfold checkE at hc
    split at hc
    · cases hc
    · rename_i h
      split at hc
      · rename_i h2; exact ⟨eq_false h, h2⟩
      · cases hc
  have HG : Hid (AllGood sl es ∧ sl ≤ 8) := Lib.hid ⟨hcc.2, by have := hcc.1; simp at this; omega⟩
  have HN := Lib.hid hn
  obtain ⟨i0, hi, hz0, hz1, hz2⟩ := info_parts info3i
  have hhas : hasB node sl = true := by unfold hasB; exact decide_eq_true hn
  have HCK := Lib.hid (fun W (h : EdgeRow W ea es) => check_any sa sl sc ea el ec es W h hel (by omega) (by omega))
  have HHA := Lib.hid (fun W => has_any sa sl sc ea el ec node W)
  rw [hc] at HCK
  rw [hhas] at HHA
  have HB0 : Hid (Below w.heap.size w (w.alloc (.cells #[.slice sa sl sc, .slice ea el ec] 31))) := Lib.hid ((Below.refl _ _).alloc (Nat.le_refl _) _)
  have HP0 : Hid (Blk (w.alloc (.cells #[.slice sa sl sc, .slice ea el ec] 31)) w.heap.size 31 [.slice sa sl sc, .slice ea el ec]) := Lib.hid (Blk.new w 31 _)
  have HSO0 : Hid (∀ x, stepsL sl es x amt = openL es x amt es.length) := Lib.hid (fun x => if_pos hc)
  clear hE hel hc hn hcc hhas
  have HSL : Hid (sl ≤ 1000) := Lib.hid hsl2
  go_enter Try.func22, Try.ntmps22
  have p0 : (w.alloc (.cells #[.slice sa sl sc, .slice ea el ec] 31)).cell? ⟨w.heap.size, 0, none⟩ = some (.slice sa sl sc) := HP0.out.cell 0
  have p1 : (w.alloc (.cells #[.slice sa sl sc, .slice ea el ec] 31)).cell? ⟨w.heap.size, 1, none⟩ = some (.slice ea el ec) := HP0.out.cell 1
  go_wp2_with fail
  clear p0 p1
  refine (HCK.out _ (HE.out.below HB0.out)).mono ?_
  rintro e V1 ⟨rfl, hB⟩
  have HP1 := Lib.hid (HP0.out.below hB HP0.out.lt)
  have HB1 := Lib.hid (HB0.out.trans (hB.mono HB0.out.size))
  clear hB HP0 HB0 HCK
  have p0 : V1.cell? ⟨w.heap.size, 0, none⟩ = some (.slice sa sl sc) := HP1.out.cell 0
  have p1 : V1.cell? ⟨w.heap.size, 1, none⟩ = some (.slice ea el ec) := HP1.out.cell 1
  go_wp2_with fail
  clear p0 p1
  refine (HHA.out _).mono ?_
  rintro e V2 ⟨rfl, hB⟩
  have HP2 := Lib.hid (HP1.out.below hB HP1.out.lt)
  have HB2 := Lib.hid (HB1.out.trans (hB.mono HB1.out.size))
  clear hB HP1 HB1 HHA
  have hBa : Below V2.heap.size V2 (V2.alloc (.cells #[.int .i64 node] 3)) := (Below.refl _ _).alloc (Nat.le_refl _) _
  have HI3 : Hid ((V2.alloc (.cells #[.int .i64 node] 3)).ownsRow w.heap.size 3 1 (.slice (some ⟨V2.heap.size, 0, none⟩) 1 1) 1 (ins [node])) := Lib.hid (World.ownsRow_lit V2 #[.int .i64 node] 1 HB2.out.size (by unfold maxLen; omega) rfl)
  have HP3 := Lib.hid (HP2.out.below hBa HP2.out.lt)
  have HB3 := Lib.hid (HB2.out.trans (hBa.mono HB2.out.size))
  have HE3 := Lib.hid (HE.out.below HB3.out)
  clear hBa HP2 HB2
  go_upto_region 4 with fail
  obtain ⟨gp, hgp⟩ : ∃ gp, w.heap.size = gp := ⟨_, rfl⟩
  have HW : Hid (w.heap.size = gp) := Lib.hid hgp
  rw [hgp] at HP3 ⊢
  clear hgp
  generalize V2.alloc (.cells #[.int .i64 node] 3) = V3 at HI3 HP3 HB3 HE3 ⊢
  generalize V2.heap.size = g0 at HI3 ⊢
  go_wp2_with fail
  go_loopw [7, 8, 10] (fun s7 a _ wd => ∃ (k n c g : Nat) (l : List Int), a = .int .i64 k ∧ s7 = .slice (some ⟨g, 0, none⟩) n c ∧ k ≤ 8 ∧ Hid (l.length = n) ∧ Hid (Bfs es amt node sl l k) ∧ Hid (wd.ownsRow w.heap.size 3 1 (.slice (some ⟨g, 0, none⟩) n c) n (ins l)) ∧ Hid (Blk wd gp 31 [.slice sa sl sc, .slice ea el ec]) ∧ Hid (EdgeRow wd ea es) ∧ Hid (Below w.heap.size w wd)) (fun _ a _ _ => 8 - (intOf a).toNat)
  case atStart => exact ⟨0, 1, 1, g0, [node], rfl, rfl, by omega, Lib.hid rfl, Lib.hid ⟨by simp, fun x hx => by simp at hx; subst hx; exact .here, by simp, fun i hi => by omega, by simp, HN.out⟩, HI3, HP3, HE3, HB3⟩
  case round =>
    clear HI3 HP3 HE3 HB3
    obtain ⟨k, n, c, g, l, rfl, rfl, hk8, HLN, HF, Ir, Pr, Er, Br⟩ := hrel
    have hn8 : n ≤ 8 := by rw [← HLN.out]; exact HF.out.le HG.out
    have hn9 : (n : Int) ≤ 8 := by omega
    have hkn : k ≤ n := by rw [← HLN.out]; exact HF.out.kl
    by_cases hlt : k < n
    · have hlI : (k : Int) < (n : Int) := by omega
      obtain ⟨x, hx⟩ : ∃ x, l.getD k 0 = x := ⟨_, rfl⟩
      obtain ⟨S, hS⟩ : ∃ S, openL es x amt es.length = S := ⟨_, rfl⟩
      obtain ⟨m, hm⟩ : ∃ m, S.length = m := ⟨_, rfl⟩
      have HSO : Hid (S = openL es x amt es.length) := Lib.hid hS.symm
      have HS : Hid (stepsL sl es x amt = S) := Lib.hid (by rw [HSO0.out, hS])
      have HML := Lib.hid hm
      have HKX : Hid (k < n ∧ l.getD k 0 = x) := Lib.hid ⟨hlt, hx⟩
      have hml : m ≤ el := by rw [← hm, ← hS, ← HEL.out]; exact openL_length es x amt _
      have Cr : Hid (wr.cell? ⟨g, k, none⟩ = some (.int .i64 x)) := Lib.hid (by
        have h1 := World.ownsRow.cellAt Ir.out k (by omega)
        rw [h1, ins_at l k (by rw [HLN.out]; exact hlt), hx])
      have hmI : (m : Int) ≤ 90 := by omega
      clear hx hS hm
      go_upto_region 7 with fail
      have hBz : Below wr.heap.size wr wr.drew := below_drewN (Below.refl _ _) 1
      have PX0 : Hid (Blk wr.drew gp 31 [.slice sa sl sc, .slice ea el ec]) := Lib.hid (Pr.out.below hBz Pr.out.lt)
      have EX0 : Hid (EdgeRow wr.drew ea es) := Lib.hid (Er.out.below hBz)
      have BX0 : Hid (Below w.heap.size w wr.drew) := Lib.hid (Br.out.trans (hBz.mono Br.out.size))
      have IX0 : Hid (wr.drew.ownsRow w.heap.size 3 1 (.slice (some ⟨g, 0, none⟩) n c) n (ins l)) := Lib.hid (own_keepI Ir.out hBz)
      have CX0 : Hid (wr.drew.cell? ⟨g, k, none⟩ = some (.int .i64 x)) := Lib.hid ((hBz.cell (p := ⟨g, k, none⟩) (World.block_lt_of_cell? _ _ Cr.out)).trans Cr.out)
      clear hBz
      refine wp_region_held_drew (S := fun w' => Blk w' gp 31 [.slice sa sl sc, .slice ea el ec] ∧ w'.cell? ⟨g, k, none⟩ = some (.int .i64 x)) (by kernel_rfl) (⟨PX0.out, CX0.out⟩) (fun hHeld => ?_)
      generalize wr.drew = X0 at hHeld PX0 EX0 BX0 IX0 CX0 ⊢
      refine wpAnyH_take (i := 0) (v := .agg #[.slice sa sl sc, .slice ea el ec]) rfl (by kernel_rfl) (by kernel_rfl) (by kernel_rfl) (fun _ _ _ h => h) (Or.inl ⟨by rfl, by intro w' h; have k0 := Blk.cell h.1 0; have k1 := Blk.cell h.1 1; simp only [List.getElem?_cons_zero, List.getElem?_cons_succ] at k0 k1; go_simp⟩) hHeld ?_
      show wpAnyH _ _ _ _ _ _ _ (Act.put _ (some 28) _) _
      simp only [Act.put, List.setIfInBounds_toArray, List.set_cons_zero, List.set_cons_succ]
      refine wpAnyH_take (i := 1) (v := .slice (some ⟨g, 0, none⟩) n c) rfl (by kernel_rfl) (by kernel_rfl) (by kernel_rfl) (fun _ _ _ h => h) (Or.inl ⟨by rfl, fun w _ => by rfl⟩) hHeld ?_
      show wpAnyH _ _ _ _ _ _ _ (Act.put _ (some 29) _) _
      simp only [Act.put, List.setIfInBounds_toArray, List.set_cons_zero, List.set_cons_succ]
      refine wpAnyH_take (i := 2) (v := .int .i64 (k : Int)) rfl (by kernel_rfl) (by kernel_rfl) (by kernel_rfl) (fun _ _ _ h => h) (Or.inl ⟨by rfl, fun w _ => by rfl⟩) hHeld ?_
      show wpAnyH _ _ _ _ _ _ _ (Act.put _ (some 30) _) _
      simp only [Act.put, List.setIfInBounds_toArray, List.set_cons_zero, List.set_cons_succ]
      refine wpAnyH_take (i := 3) (v := .pointer (some ⟨g, k, none⟩)) rfl (by kernel_rfl) (by kernel_rfl) (by kernel_rfl) (fun _ _ _ h => h) (Or.inl ⟨by rfl, by intro w' h; go_simp⟩) hHeld ?_
      show wpAnyH _ _ _ _ _ _ _ (Act.put _ (some 31) _) _
      simp only [Act.put, List.setIfInBounds_toArray, List.set_cons_zero, List.set_cons_succ]
      refine wpAnyH_take (i := 4) (v := .int .i64 x) rfl (by kernel_rfl) (by kernel_rfl) (by kernel_rfl) (fun _ _ _ h => h) (Or.inl ⟨by rfl, by intro w' h; have q9 := h.2; go_simp⟩) hHeld ?_
      show wpAnyH _ _ _ _ _ _ _ (Act.put _ (some 32) _) _
      simp only [Act.put, List.setIfInBounds_toArray, List.set_cons_zero, List.set_cons_succ]
      refine wpAnyH_take (i := 5) (v := .int .u64 amt) rfl (by kernel_rfl) (by kernel_rfl) (by kernel_rfl) (fun _ _ _ h => h) (Or.inl ⟨by rfl, fun w _ => by rfl⟩) hHeld ?_
      show wpAnyH _ _ _ _ _ _ _ (Act.put _ (some 33) _) _
      simp only [Act.put, List.setIfInBounds_toArray, List.set_cons_zero, List.set_cons_succ]
      refine wpAnyH_take (i := 8) (v := .int .i64 0) rfl (by kernel_rfl) (by kernel_rfl) (by kernel_rfl) (fun _ _ _ h => h) (Or.inl ⟨by rfl, fun w _ => by rfl⟩) hHeld ?_
      show wpAnyH _ _ _ _ _ _ _ (Act.put _ (some 36) _) _
      simp only [Act.put, List.setIfInBounds_toArray, List.set_cons_zero, List.set_cons_succ]
      refine wpAnyH_ready (rs := [6]) (by kernel_rfl) (by simp) ?_
      refine AllReadyH.cons rfl (fun K hK => ?_) AllReadyH.nil
      refine step_call rfl 46 #[.tmp 28, .tmp 32, .tmp 33] #[31, 3, 40] rfl #[.agg #[.slice sa sl sc, .slice ea el ec], .int .i64 x, .int .u64 amt] (by simp [Act.eval]) (by go_simp) (open_any sa sl sc ea el ec es x amt X0 EX0.out HEL.out (by omega) (by omega)) ?_
      rintro e X1 ⟨vL, rfl, hO, hB⟩
      rw [HS.out, HML.out] at hO
      obtain ⟨la, lc, hvl, _⟩ := StpRow.of_own (l := S) (by rw [HML.out]; exact hO)
      rw [HML.out] at hvl
      subst hvl
      have PX1 : Hid (Blk X1 gp 31 [.slice sa sl sc, .slice ea el ec]) := Lib.hid (PX0.out.below hB PX0.out.lt)
      have EX1 : Hid (EdgeRow X1 ea es) := Lib.hid (EX0.out.below hB)
      have BX1 : Hid (Below w.heap.size w X1) := Lib.hid (BX0.out.trans (hB.mono BX0.out.size))
      have IX1 : Hid (X1.ownsRow w.heap.size 3 1 (.slice (some ⟨g, 0, none⟩) n c) n (ins l)) := Lib.hid (own_keepI IX0.out hB)
      have CX1 : Hid (X1.cell? ⟨g, k, none⟩ = some (.int .i64 x)) := Lib.hid ((hB.cell (p := ⟨g, k, none⟩) (World.block_lt_of_cell? _ _ CX0.out)).trans CX0.out)
      have LX1 : Hid (X1.ownsRow w.heap.size 44 5 (.slice la m lc) m (sflat S)) := Lib.hid (own_lower hO BX0.out.size)
      clear hO
      clear PX0 EX0 BX0 IX0 CX0 hB
      refine ⟨_, rfl, hK.out _ _ (⟨PX1.out, CX1.out⟩) (fun hHeld => ?_)⟩
      clear hK K
      show wpAnyH _ _ _ _ _ _ _ (Act.put _ (some 34) _) _
      simp only [Act.put, List.setIfInBounds_toArray, List.set_cons_zero, List.set_cons_succ]
      refine wpAnyH_take (i := 7) (v := .int .i64 (m : Int)) rfl (by kernel_rfl) (by kernel_rfl) (by kernel_rfl) (fun _ _ _ h => h) (Or.inl ⟨by rfl, by intro w' h; go_simp⟩) hHeld ?_
      show wpAnyH _ _ _ _ _ _ _ (Act.put _ (some 35) _) _
      simp only [Act.put, List.setIfInBounds_toArray, List.set_cons_zero, List.set_cons_succ]
      refine wpAnyH_done (by kernel_rfl) ?_ _
      clear hHeld
      clear CX1
      go_wp2
      go_loopw [7, 10, 36] (fun s7 _ j wd => ∃ (i n2 c2 : Nat) (g2 : Nat) (l2 : List Int), i ≤ m ∧ j = .int .i64 i ∧ s7 = .slice (some ⟨g2, 0, none⟩) n2 c2 ∧ Hid (l2.length = n2) ∧ Hid (Bfs es amt node sl l2 k) ∧ Hid (k < n2 ∧ l2.getD k 0 = x) ∧ Hid (∀ q, q < i → (S.getD q stp00).t ∈ l2) ∧ Hid (wd.ownsRow w.heap.size 3 1 (.slice (some ⟨g2, 0, none⟩) n2 c2) n2 (ins l2)) ∧ Hid (wd.ownsRow w.heap.size 44 5 (.slice la m lc) m (sflat S)) ∧ Hid (Blk wd gp 31 [.slice sa sl sc, .slice ea el ec]) ∧ Hid (EdgeRow wd ea es) ∧ Hid (Below w.heap.size w wd)) (fun _ _ j _ => m - (intOf j).toNat)
      case atStart => exact ⟨0, n, c, g, l, Nat.zero_le _, rfl, rfl, HLN, HF, HKX, Lib.hid (fun q hq => by omega), IX1, LX1, PX1, EX1, BX1⟩
      case round =>
        clear IX1 LX1 PX1 EX1 BX1 HLN HF HKX
        obtain ⟨i, n2, c2, g2, l2, him, rfl, rfl, HLN, HF, HKX, HQ, Ir, Lr, Pr, Er, Br⟩ := hrel
        have hn8 : n2 ≤ 8 := by rw [← HLN.out]; exact HF.out.le HG.out
        have hn9 : (n2 : Int) ≤ 8 := by omega
        by_cases hlt : i < m
        · have hiS : i < S.length := by rw [HML.out]; exact hlt
          obtain ⟨la9, lc9, h9, hL9, _⟩ := StpRow.of_own (l := S) (by rw [HML.out]; exact Lr.out)
          injection h9 with h9 h10 h11
          subst h9
          clear h10 h11
          obtain ⟨bl, ol, rfl, hcl⟩ := hL9.at_ hiS
          clear hL9
          obtain ⟨t, ht⟩ : ∃ t, (S.getD i stp00).t = t := ⟨_, rfl⟩
          have HTM : Hid (Nx es amt x t) := Lib.hid ⟨S.getD i stp00, by rw [← HSO.out]; exact stp_mem S i hiS, ht⟩
          have HTT := Lib.hid ht
          obtain ⟨s0, hs0⟩ : ∃ s0, S.getD i stp00 = s0 := ⟨_, rfl⟩
          rw [hs0] at hcl ht
          obtain ⟨e9, t9, c9, b9, r9⟩ := s0
          simp only at ht
          subst ht
          have e0 : wr.cell? ⟨bl, ol + i * 5, none⟩ = some (.int .i64 e9) := hcl.2 0 _ rfl
          have e1 : wr.cell? ⟨bl, ol + i * 5 + 1, none⟩ = some (.int .i64 t9) := hcl.2 1 _ rfl
          have e2 : wr.cell? ⟨bl, ol + i * 5 + 2, none⟩ = some (.int .u64 c9) := hcl.2 2 _ rfl
          have e3 : wr.cell? ⟨bl, ol + i * 5 + 3, none⟩ = some (.int .u64 b9) := hcl.2 3 _ rfl
          have e4 : wr.cell? ⟨bl, ol + i * 5 + 4, none⟩ = some (.int .u64 r9) := hcl.2 4 _ rfl
          have hi1 : (i : Int) < (m : Int) := by omega
          have hBo : Below wr.heap.size wr (wr.alloc (.cells #[.int .i64 e9, .int .i64 t9, .int .u64 c9, .int .u64 b9, .int .u64 r9] 44)) := (Below.refl _ _).alloc (Nat.le_refl _) _
          have O : Hid (Blk (wr.alloc (.cells #[.int .i64 e9, .int .i64 t9, .int .u64 c9, .int .u64 b9, .int .u64 r9] 44)) wr.heap.size 44 [.int .i64 e9, .int .i64 t9, .int .u64 c9, .int .u64 b9, .int .u64 r9]) := Lib.hid (Blk.new wr 44 _)
          have I := Lib.hid (own_keepI Ir.out hBo)
          have L := Lib.hid (own_keepG Lr.out hBo)
          have P := Lib.hid (Pr.out.below hBo Pr.out.lt)
          have E := Lib.hid (Er.out.below hBo)
          have B := Lib.hid (Br.out.trans (hBo.mono Br.out.size))
          clear hcl hs0 hBo Ir Lr Pr Er Br hiS
          go_upto_region 10 with fail
          clear e0 e1 e2 e3 e4
          generalize wr.alloc (.cells #[.int .i64 e9, .int .i64 t9, .int .u64 c9, .int .u64 b9, .int .u64 r9] 44) = V at O I L P E B ⊢
          generalize wr.heap.size = go at O ⊢
          have o1 : V.cell? ⟨go, 1, none⟩ = some (.int .i64 t9) := O.out.cell 1
          have hIR : IRow V (some ⟨g2, 0, none⟩) l2 := by
            obtain ⟨a9, c9, h9, h8, _⟩ := IRow.of_own (l := l2) (by rw [HLN.out]; exact I.out)
            injection h9 with h9 _ _
            subst h9
            exact h8
          have HCO := Lib.hid (contains_any (some ⟨g2, 0, none⟩) n2 c2 l2 t9 V hIR HLN.out (by omega))
          clear hIR
          by_cases hm : t9 ∈ l2
          · rw [decide_eq_true hm] at HCO
            have HQ2 : Hid (∀ q, q < i + 1 → (S.getD q stp00).t ∈ l2) := Lib.hid (fun q hq => by
              rcases Nat.lt_or_eq_of_le (Nat.le_of_lt_succ hq) with h | rfl
              · exact HQ.out q h
              · rw [HTT.out]; exact hm)
            clear hm HQ HTM HTT
            go_wp2_with fail
            refine HCO.out.mono ?_
            rintro e w9 ⟨rfl, rfl⟩
            clear HCO o1 O
            go_wp2
            go_roundw
            case rel => exact ⟨i + 1, n2, c2, g2, l2, by omega, by go_num, rfl, HLN, HF, HKX, HQ2, I, L, P, E, B⟩
            case measure => simp [intOf]; omega
          · rw [decide_eq_false hm] at HCO
            have HF2 : Hid (Bfs es amt node sl (l2 ++ [t9]) k) := Lib.hid (HF.out.add (by have := HKX.out.1; rw [HLN.out]; exact this) (by rw [HKX.out.2]; exact HTM.out) hm)
            have HLN2 : Hid ((l2 ++ [t9]).length = n2 + 1) := Lib.hid (by rw [List.length_append, HLN.out]; rfl)
            have HKX2 : Hid (k < n2 + 1 ∧ (l2 ++ [t9]).getD k 0 = x) := Lib.hid ⟨by have := HKX.out.1; omega, by
              have h1 := HKX.out.1
              rw [List.getD_eq_getElem?_getD, List.getElem?_append_left (by rw [HLN.out]; exact h1), ← List.getD_eq_getElem?_getD]
              exact HKX.out.2⟩
            have HQ2 : Hid (∀ q, q < i + 1 → (S.getD q stp00).t ∈ l2 ++ [t9]) := Lib.hid (fun q hq => by
              rcases Nat.lt_or_eq_of_le (Nat.le_of_lt_succ hq) with h | rfl
              · exact List.mem_append_left _ (HQ.out q h)
              · rw [HTT.out]; simp)
            clear hm HQ HTM HTT HF HKX HLN
            go_wp2_with fail
            refine HCO.out.mono ?_
            rintro e w9 ⟨rfl, rfl⟩
            clear HCO
            have hBa : Below V.heap.size V (V.alloc (.cells #[.int .i64 t9] 3)) := (Below.refl _ _).alloc (Nat.le_refl _) _
            have I3 := Lib.hid (own_keepI I.out hBa)
            have L3 := Lib.hid (own_keepG L.out hBa)
            have P3 := Lib.hid (P.out.below hBa P.out.lt)
            have E3 := Lib.hid (E.out.below hBa)
            have B3 := Lib.hid (B.out.trans (hBa.mono B.out.size))
            have HNW := Lib.hid (cell_one_new V (.int .i64 t9) 3)
            clear hBa I L P E B O
            go_wp2_with (at_builtin; refine wpList_append_own_at _ rfl (.tmp 45) (.tmp 48) 58 rfl w.heap.size 3 i0 (.int .i64 0) 1 8 Try.underlying58 hi hz0 hz1 hz2 rfl (by decide) _ n2 (ins l2) rfl I3.out ⟨V.heap.size, 0, none⟩ 1 1 [.int .i64 t9] rfl rfl HNW.out (by intro u hu; simp at hu; subst hu; rfl) ?c1 ?c2 ?c3 ?_)
            case c1 => unfold maxLen; omega
            case c2 => omega
            case c3 => exact B3.out.size
            intro v9 W9 hown hgr hnil hat
            have I9 : Hid (W9.ownsRow w.heap.size 3 1 v9 (n2 + 1) (ins (l2 ++ [t9]))) := Lib.hid (by rw [ins_append]; exact hown)
            have P9 := Lib.hid (P3.out.grown hgr (own_ne P3.out I3.out (by decide)))
            have B9 : Hid (Below w.heap.size w W9) := Lib.hid (B3.out.grown hgr B3.out.size (fun j hj => (World.ownsRow.lt I3.out j hj).1))
            have L9 := Lib.hid (own_other L3.out I3.out (by decide) hgr)
            have E9 : Hid (EdgeRow W9 ea es) := Lib.hid (HE.out.below_ B9.out)
            obtain ⟨gx, cx, hvx⟩ : ∃ gx cx, v9 = .slice (some ⟨gx, 0, none⟩) (n2 + 1) cx := by
              rcases I9.out.2 with ⟨_, h0⟩ | ⟨gx, cx, _, h1, _⟩
              · omega
              · exact ⟨gx, cx, h1⟩
            subst hvx
            clear hown hgr hnil hat I3 P3 B3 L3 E3 HNW
            go_wp2
            go_roundw
            case rel => exact ⟨i + 1, n2 + 1, cx, gx, l2 ++ [t9], by omega, by go_num, rfl, HLN2, HF2, HKX2, HQ2, I9, L9, P9, E9, B9⟩
            case measure => simp [intOf]; omega
        · obtain rfl : i = m := by omega
          have HF2 : Hid (Bfs es amt node sl l2 (k + 1)) := Lib.hid (HF.out.next (by rw [HLN.out]; exact HKX.out.1) (by rw [HKX.out.2]; intro y hy; obtain ⟨s9, hs9, hy9⟩ := hy; rw [← HSO.out] at hs9; obtain ⟨q, hq, hq2⟩ := List.mem_iff_getElem.1 hs9; have h7 := HQ.out q (by rw [← HML.out]; exact hq); rw [List.getD_eq_getElem?_getD, List.getElem?_eq_getElem hq, Option.getD_some, hq2, hy9] at h7; exact h7))
          have hk2 := HKX.out.1
          clear HF HQ Lr
          go_wp2
          go_roundw
          case rel => exact ⟨k + 1, n2, c2, g2, l2, by go_num, rfl, by omega, HLN, HF2, Ir, Pr, Er, Br⟩
          case measure => simp [intOf]; omega
    · obtain rfl : k = n := by omega
      have HLL : Hid (Bfs es amt node sl l l.length) := Lib.hid (by rw [HLN.out]; exact HF.out)
      have HR := Lib.hid (sorted_rises l HF.out.nd)
      have HSR := Lib.hid (sort_any w.heap.size g k c l wr HLN.out (by omega) Ir.out)
      have hLN := HLN.out
      clear HLN HF
      go_wp2_with fail
      refine HSR.out.mono ?_
      rintro e W9 ⟨rfl, hI, hg⟩
      have hlen : (l.mergeSort fun x y => decide (x ≤ y)).length = k := by rw [List.length_mergeSort]; exact hLN
      have HB9 := Lib.hid (Br.out.grown hg Br.out.size (fun q hq => by injection hq with hq; subst hq; exact (World.ownsRow.lt Ir.out _ rfl).1))
      have hIR := IRow.of_own (l := l.mergeSort fun x y => decide (x ≤ y)) (by rw [hlen]; exact hI)
      obtain ⟨a9, c9, h9, h8, _⟩ := hIR
      injection h9 with h9 h10 h11
      have HFIN : Hid (ReachP es amt node (l.mergeSort fun x y => decide (x ≤ y)) ∧ IRow W9 (some ⟨g, 0, none⟩) (l.mergeSort fun x y => decide (x ≤ y)) ∧ (l.mergeSort fun x y => decide (x ≤ y)).length = k) := Lib.hid ⟨⟨HR.out.1, fun x => (HR.out.2 x).trans (HLL.out.all x)⟩, by rw [h9]; exact h8, hlen⟩
      clear hI hg hlen h9 h8 h10 h11 HR HLL HSR hLN
      go_wp2
      go_ret
      exact ⟨some ⟨g, 0, none⟩, c, _, by rw [HFIN.out.2.2]; rfl, HFIN.out.1, HFIN.out.2.1, HB9.out⟩
end Go.Proofs.Ytnnimjaigciedaa
