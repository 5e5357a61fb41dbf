/-
  Routes that go on from a trail (each, 60), step by step.
-/
import Derived.Test.YtnnimjaigciedaaPathL
namespace Go.Proofs.Ytnnimjaigciedaa
open Go.RowKit
set_option linter.unusedVariables false

/-- What each does, with so many steps left. -/
def EachAt (sa : Option Addr) (sl sc : Nat) (ea : Option Addr) (el ec : Nat) (es : List Ed) (goal amt : Int) (gl : Nat) (w0 : World) (f : Nat) : Prop :=
  ∀ (na : Option Addr) (n nc : Nat) (ta : Option Addr) (tl tc : Nat) (l : List Int) (s : List Stp) (acc : List Rt) (a : Option Addr) (c : Nat) (w : World), l.length = n → 0 < n → s.length = tl → tl + f = 7 → n = tl + 1 →
    w.ownsRow (gl + 1) 3 1 (.slice na n nc) n (ins l) → w.ownsRow (gl + 1) 44 5 (.slice ta tl tc) tl (sflat s) → Found w gl amt acc a c → acc.length < 32 → (∀ q ∈ s, Word q.b ∧ Word q.r) → (lastI l = goal → 0 < tl) → Below w0.heap.size w0 w →
    Calls Try.prog 60 #[.agg #[.slice sa sl sc, .slice ea el ec, .int .i64 goal, .int .u64 amt], .agg #[.slice na n nc, .slice ta tl tc], .func (.func 62) #[] #[.pointer (some ⟨gl, 0, none⟩)]] w (EachPost sl es goal amt f l s acc gl w)
theorem own_none {w : World} {base size n c : Nat} {e : TypeId} {a : Option Addr} {xs : List Value} (h : w.ownsRow base e size (.slice a n c) n xs) (ha : a = none) : n = 0 ∧ c = 0 := by
  subst ha
  rcases h.2 with ⟨h1, h0⟩ | ⟨g, c', cur, h1, _⟩
  · injection h1 with _ _ h2; exact ⟨h0, h2⟩
  · simp at h1

set_option maxRecDepth 100000 in
set_option maxHeartbeats 16000000 in
theorem each_go (sa : Option Addr) (sl sc : Nat) (ea : Option Addr) (el ec : Nat) (es : List Ed) (goal amt : Int) (gl : Nat) (w0 : World) (f : Nat) (hIH : EachAt sa sl sc ea el ec es goal amt gl w0 f) (hE : EdgeRow w0 ea es) (hel : es.length = el) (hel2 : el ≤ 90) (hsl2 : sl ≤ 1000) (hok : ∀ e ∈ es, EdOk e) (hg0 : w0.heap.size ≤ gl)
    (na : Option Addr) (n nc : Nat) (ta : Option Addr) (tl tc : Nat) (l : List Int) (s : List Stp) (acc : List Rt) (a : Option Addr) (c : Nat) (w : World) (hll : l.length = n) (hn0 : 0 < n) (htl : s.length = tl) (h7 : tl + (f + 1) = 7) (hnt : n = tl + 1)
    (hL : w.ownsRow (gl + 1) 3 1 (.slice na n nc) n (ins l)) (hS : w.ownsRow (gl + 1) 44 5 (.slice ta tl tc) tl (sflat s)) (hF : Found w gl amt acc a c) (hac : acc.length < 32) (hw : ∀ q ∈ s, Word q.b ∧ Word q.r) (hB0 : Below w0.heap.size w0 w) (hg : lastI l ≠ goal) :
    Calls Try.prog 60 #[.agg #[.slice sa sl sc, .slice ea el ec, .int .i64 goal, .int .u64 amt], .agg #[.slice na n nc, .slice ta tl tc], .func (.func 62) #[] #[.pointer (some ⟨gl, 0, none⟩)]] w (EachPost sl es goal amt (f + 1) l s acc gl w) := by
  obtain ⟨R, hR⟩ : ∃ R, eachL sl es goal amt (f + 1) l s (acc.map Rt.tr) = R := ⟨_, rfl⟩
  obtain ⟨F, hFE⟩ : ∃ F : Stp → List Tr → List Tr × Bool, (fun q a => eachL sl es goal amt f (l ++ [q.t]) (s ++ [q]) a) = F := ⟨_, rfl⟩
  obtain ⟨lst, hlst⟩ : ∃ x, lastI l = x := ⟨_, rfl⟩
  obtain ⟨S, hSS⟩ : ∃ S, stepsL sl es lst 0 = S := ⟨_, rfl⟩
  obtain ⟨m, hm⟩ : ∃ m, S.length = m := ⟨_, rfl⟩
  have HRR := Lib.hid hR
  have HGS : Hid (goS F l (S.drop 0) (acc.map Rt.tr) = R) := Lib.hid (by
    rw [List.drop_zero, ← hR]
    unfold eachL
    rw [if_neg hg, hlst, hSS, hFE])
  have HLA : Hid (l.getD (n - 1) 0 = lst) := Lib.hid (by rw [← hll]; exact hlst)
  have hm90 : m ≤ 90 := by rw [← hm, ← hSS]; have := stepsL_length (sl := sl) (es := es) (node := lst) (amt := 0); omega
  have HSW : Hid (∀ q ∈ S, Word q.b ∧ Word q.r) := Lib.hid (by rw [← hSS]; exact steps_word hok)
  rw [hlst] at hg
  have HNE := Lib.hid hg
  have HFE := Lib.hid hFE
  have HSS := Lib.hid hSS
  have HMM := Lib.hid hm
  have HIH := Lib.hid hIH
  have HE := Lib.hid hE
  have HEL := Lib.hid hel
  have HW0 := Lib.hid hB0
  have HAC0 := Lib.hid hac
  have H7 := Lib.hid h7
  have HNT := Lib.hid hnt
  have HNN : Hid (na = none → l = [] ∧ nc = 0) := Lib.hid (fun h => by have := own_none hL h; omega)
  have HTN : Hid (ta = none → s = [] ∧ tc = 0) := Lib.hid (fun h => by have h2 := own_none hS h; exact ⟨List.eq_nil_of_length_eq_zero (by omega), h2.2⟩)
  have hn : n ≤ 8 := by omega
  have ht2 : tl ≤ 6 := by omega
  have hmI : (m : Int) ≤ 90 := by omega
  have ht6 : (tl : Int) ≤ 6 := by omega
  have d7 : ((tl : Int) == 7) = false := by simp; omega
  have d7' : decide ((tl : Int) = 7) = false := decide_eq_false (by omega)
  clear hg hlst hR hFE hSS hm hIH hE hel hB0 h7 hnt hok hac
  have ham : True := trivial
  have HLL := Lib.hid hll
  have HTL := Lib.hid htl
  have HLO := Lib.hid hL
  have HSO := Lib.hid hS
  have HFF := Lib.hid hF
  have hgl := hF.var.lt
  have HWW := Lib.hid hw
  have BV : Hid (Below w.heap.size w ((w.alloc (.cells #[.slice sa sl sc, .slice ea el ec, .int .i64 goal, .int .u64 amt] 117)).alloc (.cells #[.slice na n nc, .slice ta tl tc] 122))) := Lib.hid (((Below.refl _ _).alloc (Nat.le_refl _) _).alloc (by simp) _)
  have GV : Hid (Blk ((w.alloc (.cells #[.slice sa sl sc, .slice ea el ec, .int .i64 goal, .int .u64 amt] 117)).alloc (.cells #[.slice na n nc, .slice ta tl tc] 122)) w.heap.size 117 [.slice sa sl sc, .slice ea el ec, .int .i64 goal, .int .u64 amt]) := Lib.hid ((Blk.new w 117 [.slice sa sl sc, .slice ea el ec, .int .i64 goal, .int .u64 amt]).alloc _)
  have TV : Hid (Blk ((w.alloc (.cells #[.slice sa sl sc, .slice ea el ec, .int .i64 goal, .int .u64 amt] 117)).alloc (.cells #[.slice na n nc, .slice ta tl tc] 122)) (w.heap.size + 1) 122 [.slice na n nc, .slice ta tl tc]) := Lib.hid (Blk.mk_ (cs := [.slice na n nc, .slice ta tl tc]) (by simp))
  clear hll htl hL hS hF ham hw
  go_enter Try.func60, Try.ntmps60
  go_upto_region 1 with fail
  generalize ((w.alloc (.cells #[.slice sa sl sc, .slice ea el ec, .int .i64 goal, .int .u64 amt] 117)).alloc (.cells #[.slice na n nc, .slice ta tl tc] 122)) = V at BV GV TV ⊢
  have hgt9 : w.heap.size < w.heap.size + 1 := by omega
  obtain ⟨gt, hgt⟩ : ∃ g, w.heap.size + 1 = g := ⟨_, rfl⟩
  rw [hgt] at TV hgt9 ⊢
  clear hgt
  have hBz : Below V.heap.size V V.drew := below_drewN (Below.refl _ _) 1
  have GX0 : Hid (Blk V.drew w.heap.size 117 [.slice sa sl sc, .slice ea el ec, .int .i64 goal, .int .u64 amt]) := Lib.hid (GV.out.below hBz GV.out.lt)
  have TX0 : Hid (Blk V.drew gt 122 [.slice na n nc, .slice ta tl tc]) := Lib.hid (TV.out.below hBz TV.out.lt)
  have BX0 : Hid (Below w.heap.size w V.drew) := Lib.hid (BV.out.trans (hBz.mono BV.out.size))
  clear hBz
  refine wp_region_held_drew (S := fun w' => Blk w' w.heap.size 117 [.slice sa sl sc, .slice ea el ec, .int .i64 goal, .int .u64 amt] ∧ Blk w' gt 122 [.slice na n nc, .slice ta tl tc]) (by kernel_rfl) (⟨GX0.out, TX0.out⟩) (fun hHeld => ?_)
  generalize V.drew = X0 at hHeld GX0 TX0 BX0 ⊢
  refine wpAnyH_take (i := 0) (v := .agg #[.slice na n nc, .slice ta tl tc]) rfl (by kernel_rfl) (by kernel_rfl) (by kernel_rfl) (fun _ _ _ h => h) (Or.inl ⟨by rfl, by intro w' h; have k0 := Blk.cell h.2 0; have k1 := Blk.cell h.2 1; simp only [List.getElem?_cons_zero, List.getElem?_cons_succ] at k0 k1; go_simp⟩) hHeld ?_
  show wpAnyH _ _ _ _ _ _ _ (Act.put _ (some 11) _) _
  simp only [Act.put, List.setIfInBounds_toArray, List.set_cons_zero, List.set_cons_succ]
  refine wpAnyH_take (i := 2) (v := .pointer (some ⟨w.heap.size, 2, none⟩)) rfl (by kernel_rfl) (by kernel_rfl) (by kernel_rfl) (fun _ _ _ h => h) (Or.inl ⟨by rfl, by intro w' h; go_simp⟩) hHeld ?_
  show wpAnyH _ _ _ _ _ _ _ (Act.put _ (some 13) _) _
  simp only [Act.put, List.setIfInBounds_toArray, List.set_cons_zero, List.set_cons_succ]
  refine wpAnyH_take (i := 3) (v := .int .i64 goal) rfl (by kernel_rfl) (by kernel_rfl) (by kernel_rfl) (fun _ _ _ h => h) (Or.inl ⟨by rfl, by intro w' h; have k0 := Blk.cell h.1 2; simp only [List.getElem?_cons_zero, List.getElem?_cons_succ] at k0; go_simp⟩) hHeld ?_
  show wpAnyH _ _ _ _ _ _ _ (Act.put _ (some 14) _) _
  simp only [Act.put, List.setIfInBounds_toArray, List.set_cons_zero, List.set_cons_succ]
  refine wpAnyH_ready (rs := [1]) (by kernel_rfl) (by simp) ?_
  refine AllReadyH.cons rfl (fun K hK => ?_) AllReadyH.nil
  refine step_call rfl 70 #[.tmp 11] #[122] rfl #[.agg #[.slice na n nc, .slice ta tl tc]] (by simp [Act.eval]) (by go_simp) (end_any na n nc ta tl tc l X0 (irow_own (Mon.own_below HLO.out BX0.out) HLL.out) HLL.out hn0 (by omega)) ?_
  rintro e X1 ⟨rfl, hB⟩
  rw [HLA.out]
  have GX1 : Hid (Blk X1 w.heap.size 117 [.slice sa sl sc, .slice ea el ec, .int .i64 goal, .int .u64 amt]) := Lib.hid (GX0.out.below hB GX0.out.lt)
  have TX1 : Hid (Blk X1 gt 122 [.slice na n nc, .slice ta tl tc]) := Lib.hid (TX0.out.below hB TX0.out.lt)
  have BX1 : Hid (Below w.heap.size w X1) := Lib.hid (BX0.out.trans (hB.mono BX0.out.size))
  clear GX0 TX0 BX0 hB
  refine ⟨_, rfl, hK.out _ _ (⟨GX1.out, TX1.out⟩) (fun hHeld => ?_)⟩
  clear hK K
  show wpAnyH _ _ _ _ _ _ _ (Act.put _ (some 12) _) _
  simp only [Act.put, List.setIfInBounds_toArray, List.set_cons_zero, List.set_cons_succ]
  refine wpAnyH_take (i := 4) (v := .bool false) rfl (by kernel_rfl) (by kernel_rfl) (by kernel_rfl) (fun _ _ _ h => h) (Or.inl ⟨by rfl, by intro w' h; go_simp; first | done | exact HNE.out | (simp; exact HNE.out) | simpa using HNE.out⟩) hHeld ?_
  show wpAnyH _ _ _ _ _ _ _ (Act.put _ (some 15) _) _
  simp only [Act.put, List.setIfInBounds_toArray, List.set_cons_zero, List.set_cons_succ]
  refine wpAnyH_done (by kernel_rfl) ?_ _
  clear hHeld
  obtain ⟨U, hU⟩ : ∃ U, X1 = U := ⟨_, rfl⟩
  rw [hU] at GX1 TX1 BX1 ⊢
  have GU := GX1
  have TU := TX1
  have BU := BX1
  clear GX1 TX1 BX1 hU
  have t0 : U.cell? ⟨gt, 0, none⟩ = some (.slice na n nc) := TU.out.cell 0
  have t1 : U.cell? ⟨gt, 1, none⟩ = some (.slice ta tl tc) := TU.out.cell 1
  go_upto_region 6 with fail
  clear t0 t1 d7 d7'
  have hBz : Below U.heap.size U U.drew := below_drewN (Below.refl _ _) 1
  have GY0 : Hid (Blk U.drew w.heap.size 117 [.slice sa sl sc, .slice ea el ec, .int .i64 goal, .int .u64 amt]) := Lib.hid (GU.out.below hBz GU.out.lt)
  have TY0 : Hid (Blk U.drew gt 122 [.slice na n nc, .slice ta tl tc]) := Lib.hid (TU.out.below hBz TU.out.lt)
  have BY0 : Hid (Below w.heap.size w U.drew) := Lib.hid (BU.out.trans (hBz.mono BU.out.size))
  clear hBz
  refine wp_region_held_drew (S := fun w' => Blk w' w.heap.size 117 [.slice sa sl sc, .slice ea el ec, .int .i64 goal, .int .u64 amt] ∧ Blk w' gt 122 [.slice na n nc, .slice ta tl tc]) (by kernel_rfl) (⟨GY0.out, TY0.out⟩) (fun hHeld => ?_)
  generalize U.drew = Y0 at hHeld GY0 TY0 BY0 ⊢
  refine wpAnyH_take (i := 0) (v := .pointer (some ⟨w.heap.size, 0, none⟩)) rfl (by kernel_rfl) (by kernel_rfl) (by kernel_rfl) (fun _ _ _ h => h) (Or.inl ⟨by rfl, by intro w' h; go_simp⟩) hHeld ?_
  show wpAnyH _ _ _ _ _ _ _ (Act.put _ (some 33) _) _
  simp only [Act.put, List.setIfInBounds_toArray, List.set_cons_zero, List.set_cons_succ]
  refine wpAnyH_take (i := 1) (v := .agg #[.slice sa sl sc, .slice ea el ec]) rfl (by kernel_rfl) (by kernel_rfl) (by kernel_rfl) (fun _ _ _ h => h) (Or.inl ⟨by rfl, by intro w' h; have k0 := Blk.cell h.1 0; have k1 := Blk.cell h.1 1; simp only [List.getElem?_cons_zero, List.getElem?_cons_succ] at k0 k1; go_simp⟩) hHeld ?_
  show wpAnyH _ _ _ _ _ _ _ (Act.put _ (some 34) _) _
  simp only [Act.put, List.setIfInBounds_toArray, List.set_cons_zero, List.set_cons_succ]
  refine wpAnyH_take (i := 2) (v := .agg #[.slice na n nc, .slice ta tl tc]) rfl (by kernel_rfl) (by kernel_rfl) (by kernel_rfl) (fun _ _ _ h => h) (Or.inl ⟨by rfl, by intro w' h; have k0 := Blk.cell h.2 0; have k1 := Blk.cell h.2 1; simp only [List.getElem?_cons_zero, List.getElem?_cons_succ] at k0 k1; go_simp⟩) hHeld ?_
  show wpAnyH _ _ _ _ _ _ _ (Act.put _ (some 35) _) _
  simp only [Act.put, List.setIfInBounds_toArray, List.set_cons_zero, List.set_cons_succ]
  refine wpAnyH_take (i := 6) (v := .int .i64 0) rfl (by kernel_rfl) (by kernel_rfl) (by kernel_rfl) (fun _ _ _ h => h) (Or.inl ⟨by rfl, fun w _ => by rfl⟩) hHeld ?_
  show wpAnyH _ _ _ _ _ _ _ (Act.put _ (some 39) _) _
  simp only [Act.put, List.setIfInBounds_toArray, List.set_cons_zero, List.set_cons_succ]
  refine wpAnyH_ready (rs := [3]) (by kernel_rfl) (by simp) ?_
  refine AllReadyH.cons rfl (fun K hK => ?_) AllReadyH.nil
  refine step_call rfl 70 #[.tmp 35] #[122] rfl #[.agg #[.slice na n nc, .slice ta tl tc]] (by simp [Act.eval]) (by go_simp) (end_any na n nc ta tl tc l Y0 (irow_own (Mon.own_below HLO.out BY0.out) HLL.out) HLL.out hn0 (by omega)) ?_
  rintro e Y1 ⟨rfl, hB⟩
  rw [HLA.out]
  have GY1 : Hid (Blk Y1 w.heap.size 117 [.slice sa sl sc, .slice ea el ec, .int .i64 goal, .int .u64 amt]) := Lib.hid (GY0.out.below hB GY0.out.lt)
  have TY1 : Hid (Blk Y1 gt 122 [.slice na n nc, .slice ta tl tc]) := Lib.hid (TY0.out.below hB TY0.out.lt)
  have BY1 : Hid (Below w.heap.size w Y1) := Lib.hid (BY0.out.trans (hB.mono BY0.out.size))
  clear GY0 TY0 BY0 hB
  refine ⟨_, rfl, hK.out _ _ (⟨GY1.out, TY1.out⟩) (fun hHeld => ?_)⟩
  clear hK K
  show wpAnyH _ _ _ _ _ _ _ (Act.put _ (some 36) _) _
  simp only [Act.put, List.setIfInBounds_toArray, List.set_cons_zero, List.set_cons_succ]
  refine wpAnyH_ready (rs := [4]) (by kernel_rfl) (by simp) ?_
  refine AllReadyH.cons rfl (fun K hK => ?_) AllReadyH.nil
  refine step_call rfl 16 #[.tmp 34, .tmp 36] #[31, 3] rfl #[.agg #[.slice sa sl sc, .slice ea el ec], .int .i64 lst] (by simp [Act.eval]) (by go_simp) (steps_any sa sl sc ea el ec es lst Y1 (HE.out.below (HW0.out.trans (BY1.out.mono HW0.out.size))) HEL.out (by omega) (by omega)) ?_
  rintro e Y2 ⟨vS, rfl, hO, hB⟩
  rw [HSS.out, HMM.out] at hO
  obtain ⟨xa, xc, hvS⟩ := rt_slice hO
  subst hvS
  have GY2 : Hid (Blk Y2 w.heap.size 117 [.slice sa sl sc, .slice ea el ec, .int .i64 goal, .int .u64 amt]) := Lib.hid (GY1.out.below hB GY1.out.lt)
  have TY2 : Hid (Blk Y2 gt 122 [.slice na n nc, .slice ta tl tc]) := Lib.hid (TY1.out.below hB TY1.out.lt)
  have BY2 : Hid (Below w.heap.size w Y2) := Lib.hid (BY1.out.trans (hB.mono BY1.out.size))
  have ZY2 : Hid (Y2.ownsRow (gl + 1) 44 5 (.slice xa m xc) m (sflat S)) := Lib.hid (own_lower hO (show gl + 1 ≤ Y1.heap.size by have := BY1.out.size; omega))
  clear hO
  clear GY1 TY1 BY1 hB
  refine ⟨_, rfl, hK.out _ _ (⟨GY2.out, TY2.out⟩) (fun hHeld => ?_)⟩
  clear hK K
  show wpAnyH _ _ _ _ _ _ _ (Act.put _ (some 37) _) _
  simp only [Act.put, List.setIfInBounds_toArray, List.set_cons_zero, List.set_cons_succ]
  refine wpAnyH_take (i := 5) (v := .int .i64 (m : Int)) rfl (by kernel_rfl) (by kernel_rfl) (by kernel_rfl) (fun _ _ _ h => h) (Or.inl ⟨by rfl, by intro w' h; go_simp⟩) hHeld ?_
  show wpAnyH _ _ _ _ _ _ _ (Act.put _ (some 38) _) _
  simp only [Act.put, List.setIfInBounds_toArray, List.set_cons_zero, List.set_cons_succ]
  refine wpAnyH_done (by kernel_rfl) ?_ _
  clear hHeld
  have KZ : Hid (Kp gl w Y2) := Lib.hid (Kp.of_below BY2.out (by omega))
  have FZ := Lib.hid (HFF.out.below BY2.out)
  clear BY2 HFF
  go_wp2_with fail
  go_loopw [39] (fun j wd => ∃ (i : Nat) (ac : List Rt) (a1 : Option Addr) (c1 : Nat), i ≤ m ∧ j = .int .i64 (i : Int) ∧ Hid (goS F l (S.drop i) (ac.map Rt.tr) = R) ∧ Hid (ac.length < 32) ∧ Hid (Found wd gl amt ac a1 c1) ∧ Hid (Blk wd w.heap.size 117 [.slice sa sl sc, .slice ea el ec, .int .i64 goal, .int .u64 amt]) ∧ Hid (Blk wd gt 122 [.slice na n nc, .slice ta tl tc]) ∧ Hid (wd.ownsRow (gl + 1) 44 5 (.slice xa m xc) m (sflat S)) ∧ Hid (Kp gl w wd)) (fun j _ => m - (intOf j).toNat)
  case atStart => exact ⟨0, acc, a, c, Nat.zero_le _, rfl, HGS, HAC0, FZ, GY2, TY2, ZY2, KZ⟩
  case round =>
    clear HGS HAC0 FZ GY2 TY2 ZY2 KZ
    obtain ⟨i, ac, a1, c1, hi, rfl, HGR, HAC, Fr, Gr, Tr_, Zr, Kr⟩ := hrel
    obtain ⟨wj, hwj⟩ : ∃ wj : World, wr = wj := ⟨_, rfl⟩
    rw [hwj] at Fr Gr Tr_ Zr Kr ⊢
    clear hwj
    by_cases hlt : i < m
    · have hiI : (i : Int) < (m : Int) := by omega
      have hiS : i < S.length := by rw [HMM.out]; exact hlt
      obtain ⟨bl, ol, hxa, hcl⟩ := (srow_own Zr.out HMM.out).at_ hiS
      obtain ⟨q9, hq9⟩ : ∃ q9, S.getD i stp00 = q9 := ⟨_, rfl⟩
      have HST := Lib.hid (goS_in HGR.out hiS hq9)
      have hwq : Word q9.b ∧ Word q9.r := by rw [← hq9]; exact HSW.out _ (stp_mem S i hiS)
      rw [hq9] at hcl
      obtain ⟨e9, t9, c9, b9, r9⟩ := q9
      have HWQ : Hid (∀ q ∈ s ++ [(⟨e9, t9, c9, b9, r9⟩ : Stp)], Word q.b ∧ Word q.r) := Lib.hid (fun q hq => by
        rcases List.mem_append.1 hq with h1 | h1
        · exact HWW.out q h1
        · simp at h1; subst h1; exact hwq)
      have HFQ : Hid (F ⟨e9, t9, c9, b9, r9⟩ (ac.map Rt.tr) = eachL sl es goal amt f (l ++ [t9]) (s ++ [⟨e9, t9, c9, b9, r9⟩]) (ac.map Rt.tr)) := Lib.hid (by rw [← HFE.out])
      have HL2 : Hid ((l ++ [t9]).length = n + 1) := Lib.hid (by rw [List.length_append, HLL.out]; rfl)
      have HT2 : Hid ((s ++ [(⟨e9, t9, c9, b9, r9⟩ : Stp)]).length = tl + 1) := Lib.hid (by rw [List.length_append, HTL.out]; rfl)
      subst hxa
      have e0 : wj.cell? ⟨bl, ol + i * 5, none⟩ = some (.int .i64 e9) := hcl.2 0 _ rfl
      have e1 : wj.cell? ⟨bl, ol + i * 5 + 1, none⟩ = some (.int .i64 t9) := hcl.2 1 _ rfl
      have e2 : wj.cell? ⟨bl, ol + i * 5 + 2, none⟩ = some (.int .u64 c9) := hcl.2 2 _ rfl
      have e3 : wj.cell? ⟨bl, ol + i * 5 + 3, none⟩ = some (.int .u64 b9) := hcl.2 3 _ rfl
      have e4 : wj.cell? ⟨bl, ol + i * 5 + 4, none⟩ = some (.int .u64 r9) := hcl.2 4 _ rfl
      clear hcl hq9 hiS HGR hwq
      have hBo : Below wj.heap.size wj (wj.alloc (.cells #[.int .i64 e9, .int .i64 t9, .int .u64 c9, .int .u64 b9, .int .u64 r9] 44)) := (Below.refl _ _).alloc (Nat.le_refl _) _
      have ND : Hid (Blk (wj.alloc (.cells #[.int .i64 e9, .int .i64 t9, .int .u64 c9, .int .u64 b9, .int .u64 r9] 44)) wj.heap.size 44 [.int .i64 e9, .int .i64 t9, .int .u64 c9, .int .u64 b9, .int .u64 r9]) := Lib.hid (Blk.new wj 44 _)
      have FD := Lib.hid (Fr.out.below hBo)
      have GD := Lib.hid (Gr.out.below hBo Gr.out.lt)
      have TD := Lib.hid (Tr_.out.below hBo Tr_.out.lt)
      have ZD := Lib.hid (Mon.own_below Zr.out hBo)
      have KD := Lib.hid (Kr.out.trans (Kp.of_below hBo (Nat.le_trans (Nat.le_of_lt hgl) Kr.out.low.size)))
      have HGQ : Hid (gl < wj.heap.size) := Lib.hid (Nat.lt_of_lt_of_le hgl Kr.out.low.size)
      clear hBo Fr Gr Tr_ Zr Kr
      go_upto_region 9 with fail
      clear e0 e1 e2 e3 e4
      generalize wj.alloc (.cells #[.int .i64 e9, .int .i64 t9, .int .u64 c9, .int .u64 b9, .int .u64 r9] 44) = D at ND FD GD TD ZD KD ⊢
      generalize wj.heap.size = gq at ND HGQ ⊢
      by_cases hmem : t9 ∈ l
      · have HMEM : Hid (decide (t9 ∈ l) = true) := Lib.hid (decide_eq_true hmem)
        clear hmem
        have hBz : Below D.heap.size D D.drew := below_drewN (Below.refl _ _) 1
        have GX0 : Hid (Blk D.drew w.heap.size 117 [.slice sa sl sc, .slice ea el ec, .int .i64 goal, .int .u64 amt]) := Lib.hid (GD.out.below hBz GD.out.lt)
        have TX0 : Hid (Blk D.drew gt 122 [.slice na n nc, .slice ta tl tc]) := Lib.hid (TD.out.below hBz TD.out.lt)
        have NX0 : Hid (Blk D.drew gq 44 [.int .i64 e9, .int .i64 t9, .int .u64 c9, .int .u64 b9, .int .u64 r9]) := Lib.hid (ND.out.below hBz ND.out.lt)
        have KX0 : Hid (Kp gl w D.drew) := Lib.hid (KD.out.trans (Kp.of_below hBz (Nat.le_trans (Nat.le_of_lt hgl) KD.out.low.size)))
        have FX0 : Hid (Found D.drew gl amt ac a1 c1) := Lib.hid (FD.out.below hBz)
        have ZX0 : Hid (D.drew.ownsRow (gl + 1) 44 5 (.slice (some ⟨bl, ol, none⟩) m xc) m (sflat S)) := Lib.hid (Mon.own_below ZD.out hBz)
        clear hBz
        refine wp_region_held_drew (S := fun w' => Blk w' w.heap.size 117 [.slice sa sl sc, .slice ea el ec, .int .i64 goal, .int .u64 amt] ∧ Blk w' gt 122 [.slice na n nc, .slice ta tl tc] ∧ Blk w' gq 44 [.int .i64 e9, .int .i64 t9, .int .u64 c9, .int .u64 b9, .int .u64 r9]) (by kernel_rfl) (⟨GX0.out, TX0.out, NX0.out⟩) (fun hHeld => ?_)
        generalize D.drew = X0 at hHeld GX0 TX0 NX0 KX0 FX0 ZX0 ⊢
        refine wpAnyH_take (i := 0) (v := .pointer (some ⟨gt, 0, none⟩)) rfl (by kernel_rfl) (by kernel_rfl) (by kernel_rfl) (fun _ _ _ h => h) (Or.inl ⟨by rfl, by intro w' h; go_simp⟩) hHeld ?_
        show wpAnyH _ _ _ _ _ _ _ (Act.put _ (some 43) _) _
        simp only [Act.put, List.setIfInBounds_toArray, List.set_cons_zero, List.set_cons_succ]
        refine wpAnyH_take (i := 1) (v := .slice na n nc) rfl (by kernel_rfl) (by kernel_rfl) (by kernel_rfl) (fun _ _ _ h => h) (Or.inl ⟨by rfl, by intro w' h; have k0 := Blk.cell h.2.1 0; simp only [List.getElem?_cons_zero] at k0; go_simp⟩) hHeld ?_
        show wpAnyH _ _ _ _ _ _ _ (Act.put _ (some 44) _) _
        simp only [Act.put, List.setIfInBounds_toArray, List.set_cons_zero, List.set_cons_succ]
        refine wpAnyH_take (i := 2) (v := .pointer (some ⟨gq, 1, none⟩)) rfl (by kernel_rfl) (by kernel_rfl) (by kernel_rfl) (fun _ _ _ h => h) (Or.inl ⟨by rfl, by intro w' h; go_simp⟩) hHeld ?_
        show wpAnyH _ _ _ _ _ _ _ (Act.put _ (some 45) _) _
        simp only [Act.put, List.setIfInBounds_toArray, List.set_cons_zero, List.set_cons_succ]
        refine wpAnyH_take (i := 3) (v := .int .i64 t9) rfl (by kernel_rfl) (by kernel_rfl) (by kernel_rfl) (fun _ _ _ h => h) (Or.inl ⟨by rfl, by intro w' h; have k0 := Blk.cell h.2.2 0; have k1 := Blk.cell h.2.2 1; simp only [List.getElem?_cons_zero, List.getElem?_cons_succ] at k0 k1; go_simp⟩) hHeld ?_
        show wpAnyH _ _ _ _ _ _ _ (Act.put _ (some 46) _) _
        simp only [Act.put, List.setIfInBounds_toArray, List.set_cons_zero, List.set_cons_succ]
        refine wpAnyH_ready (rs := [4]) (by kernel_rfl) (by simp) ?_
        refine AllReadyH.cons rfl (fun K hK => ?_) AllReadyH.nil
        refine step_call rfl 48 #[.tmp 44, .tmp 46] #[58, 3] rfl #[.slice na n nc, .int .i64 t9] (by simp [Act.eval]) (by go_simp) (contains_b na n nc l t9 X0 (irow_own (Kp.own HLO.out KX0.out (by decide) (by omega)) HLL.out) HLL.out (by omega)) ?_
        rintro e X1 ⟨rfl, hB⟩
        rw [HMEM.out]
        have GX1 : Hid (Blk X1 w.heap.size 117 [.slice sa sl sc, .slice ea el ec, .int .i64 goal, .int .u64 amt]) := Lib.hid (GX0.out.below hB GX0.out.lt)
        have TX1 : Hid (Blk X1 gt 122 [.slice na n nc, .slice ta tl tc]) := Lib.hid (TX0.out.below hB TX0.out.lt)
        have NX1 : Hid (Blk X1 gq 44 [.int .i64 e9, .int .i64 t9, .int .u64 c9, .int .u64 b9, .int .u64 r9]) := Lib.hid (NX0.out.below hB NX0.out.lt)
        have KX1 : Hid (Kp gl w X1) := Lib.hid (KX0.out.trans (Kp.of_below hB (Nat.le_trans (Nat.le_of_lt hgl) KX0.out.low.size)))
        have FX1 : Hid (Found X1 gl amt ac a1 c1) := Lib.hid (FX0.out.below hB)
        have ZX1 : Hid (X1.ownsRow (gl + 1) 44 5 (.slice (some ⟨bl, ol, none⟩) m xc) m (sflat S)) := Lib.hid (Mon.own_below ZX0.out hB)
        clear GX0 TX0 NX0 KX0 FX0 ZX0 hB
        refine ⟨_, rfl, hK.out _ _ (⟨GX1.out, TX1.out, NX1.out⟩) (fun hHeld => ?_)⟩
        clear hK K
        show wpAnyH _ _ _ _ _ _ _ (Act.put _ (some 47) _) _
        simp only [Act.put, List.setIfInBounds_toArray, List.set_cons_zero, List.set_cons_succ]
        refine wpAnyH_take (i := 5) (v := .bool false) rfl (by kernel_rfl) (by kernel_rfl) (by kernel_rfl) (fun _ _ _ h => h) (Or.inl ⟨by rfl, by intro w' h; go_simp⟩) hHeld ?_
        show wpAnyH _ _ _ _ _ _ _ (Act.put _ (some 48) _) _
        simp only [Act.put, List.setIfInBounds_toArray, List.set_cons_zero, List.set_cons_succ]
        refine wpAnyH_take (i := 6) (v := .bool false) rfl (by kernel_rfl) (by kernel_rfl) (by kernel_rfl) (fun _ _ _ h => h) (Or.inl ⟨by rfl, fun w _ => by rfl⟩) hHeld ?_
        show wpAnyH _ _ _ _ _ _ _ (Act.put _ (some 49) _) _
        simp only [Act.put, List.setIfInBounds_toArray, List.set_cons_zero, List.set_cons_succ]
        refine wpAnyH_take (i := 7) (v := undef) rfl (by kernel_rfl) (by kernel_rfl) (by kernel_rfl) (fun _ _ _ h => h) (Or.inr ⟨by rfl, rfl⟩) hHeld ?_
        show wpAnyH _ _ _ _ _ _ _ (Act.put _ (some 50) _) _
        simp only [Act.put, List.setIfInBounds_toArray, List.set_cons_zero, List.set_cons_succ]
        refine wpAnyH_take (i := 8) (v := undef) rfl (by kernel_rfl) (by kernel_rfl) (by kernel_rfl) (fun _ _ _ h => h) (Or.inr ⟨by rfl, rfl⟩) hHeld ?_
        show wpAnyH _ _ _ _ _ _ _ (Act.put _ (some 51) _) _
        simp only [Act.put, List.setIfInBounds_toArray, List.set_cons_zero, List.set_cons_succ]
        refine wpAnyH_take (i := 9) (v := undef) rfl (by kernel_rfl) (by kernel_rfl) (by kernel_rfl) (fun _ _ _ h => h) (Or.inr ⟨by rfl, rfl⟩) hHeld ?_
        show wpAnyH _ _ _ _ _ _ _ (Act.put _ (some 52) _) _
        simp only [Act.put, List.setIfInBounds_toArray, List.set_cons_zero, List.set_cons_succ]
        refine wpAnyH_take (i := 11) (v := undef) rfl (by kernel_rfl) (by kernel_rfl) (by kernel_rfl) (fun _ _ _ h => h) (Or.inr ⟨by rfl, rfl⟩) hHeld ?_
        show wpAnyH _ _ _ _ _ _ _ (Act.put _ (some 54) _) _
        simp only [Act.put, List.setIfInBounds_toArray, List.set_cons_zero, List.set_cons_succ]
        refine wpAnyH_ready (rs := [10]) (by kernel_rfl) (by simp) ?_
        refine AllReadyH.cons rfl (fun K hK => ?_) AllReadyH.nil
        rw [if_neg (by intro h; exact Bool.false_ne_true h)]
        refine hK.out _ _ (⟨GX1.out, TX1.out, NX1.out⟩) (fun hHeld => ?_)
        clear hK K
        show wpAnyH _ _ _ _ _ _ _ (Act.put _ (some 53) _) _
        simp only [Act.put, List.setIfInBounds_toArray, List.set_cons_zero, List.set_cons_succ]
        refine wpAnyH_ready (rs := [12]) (by kernel_rfl) (by simp) ?_
        refine AllReadyH.cons rfl (fun K hK => ?_) AllReadyH.nil
        rw [if_neg (by intro h; exact Bool.false_ne_true h)]
        refine hK.out _ _ (⟨GX1.out, TX1.out, NX1.out⟩) (fun hHeld => ?_)
        clear hK K
        show wpAnyH _ _ _ _ _ _ _ (Act.put _ (some 55) _) _
        simp only [Act.put, List.setIfInBounds_toArray, List.set_cons_zero, List.set_cons_succ]
        refine wpAnyH_take (i := 13) (v := undef) rfl (by kernel_rfl) (by kernel_rfl) (by kernel_rfl) (fun _ _ _ h => h) (Or.inr ⟨by rfl, rfl⟩) hHeld ?_
        show wpAnyH _ _ _ _ _ _ _ (Act.put _ (some 56) _) _
        simp only [Act.put, List.setIfInBounds_toArray, List.set_cons_zero, List.set_cons_succ]
        refine wpAnyH_take (i := 14) (v := .bool false) rfl (by kernel_rfl) (by kernel_rfl) (by kernel_rfl) (fun _ _ _ h => h) (Or.inl ⟨by rfl, by intro w hSw; first | rfl | go_simp⟩) hHeld ?_
        show wpAnyH _ _ _ _ _ _ _ (Act.put _ (some 57) _) _
        simp only [Act.put, List.setIfInBounds_toArray, List.set_cons_zero, List.set_cons_succ]
        refine wpAnyH_done (by kernel_rfl) ?_ _
        clear hHeld
        clear NX1
        have HRS := Lib.hid (HST.out.1 (of_decide_eq_true HMEM.out))
        clear HST HMEM
        go_wp2
        go_roundw
        case rel => exact ⟨i + 1, ac, a1, c1, by omega, by go_num, HRS, HAC, FX1, GX1, TX1, ZX1, KX1⟩
        case measure => simp [intOf]; omega
      · have HMEM : Hid (decide (t9 ∈ l) = false) := Lib.hid (decide_eq_false hmem)
        clear hmem
        have hBz : Below D.heap.size D D.drew := below_drewN (Below.refl _ _) 1
        have GX0 : Hid (Blk D.drew w.heap.size 117 [.slice sa sl sc, .slice ea el ec, .int .i64 goal, .int .u64 amt]) := Lib.hid (GD.out.below hBz GD.out.lt)
        have TX0 : Hid (Blk D.drew gt 122 [.slice na n nc, .slice ta tl tc]) := Lib.hid (TD.out.below hBz TD.out.lt)
        have NX0 : Hid (Blk D.drew gq 44 [.int .i64 e9, .int .i64 t9, .int .u64 c9, .int .u64 b9, .int .u64 r9]) := Lib.hid (ND.out.below hBz ND.out.lt)
        have KX0 : Hid (Kp gl w D.drew) := Lib.hid (KD.out.trans (Kp.of_below hBz (Nat.le_trans (Nat.le_of_lt hgl) KD.out.low.size)))
        have FX0 : Hid (Found D.drew gl amt ac a1 c1) := Lib.hid (FD.out.below hBz)
        have ZX0 : Hid (D.drew.ownsRow (gl + 1) 44 5 (.slice (some ⟨bl, ol, none⟩) m xc) m (sflat S)) := Lib.hid (Mon.own_below ZD.out hBz)
        clear hBz
        refine wp_region_held_drew (S := fun w' => Blk w' w.heap.size 117 [.slice sa sl sc, .slice ea el ec, .int .i64 goal, .int .u64 amt] ∧ Blk w' gt 122 [.slice na n nc, .slice ta tl tc] ∧ Blk w' gq 44 [.int .i64 e9, .int .i64 t9, .int .u64 c9, .int .u64 b9, .int .u64 r9]) (by kernel_rfl) (⟨GX0.out, TX0.out, NX0.out⟩) (fun hHeld => ?_)
        generalize D.drew = X0 at hHeld GX0 TX0 NX0 KX0 FX0 ZX0 ⊢
        refine wpAnyH_take (i := 0) (v := .pointer (some ⟨gt, 0, none⟩)) rfl (by kernel_rfl) (by kernel_rfl) (by kernel_rfl) (fun _ _ _ h => h) (Or.inl ⟨by rfl, by intro w' h; go_simp⟩) hHeld ?_
        show wpAnyH _ _ _ _ _ _ _ (Act.put _ (some 43) _) _
        simp only [Act.put, List.setIfInBounds_toArray, List.set_cons_zero, List.set_cons_succ]
        refine wpAnyH_take (i := 1) (v := .slice na n nc) rfl (by kernel_rfl) (by kernel_rfl) (by kernel_rfl) (fun _ _ _ h => h) (Or.inl ⟨by rfl, by intro w' h; have k0 := Blk.cell h.2.1 0; simp only [List.getElem?_cons_zero] at k0; go_simp⟩) hHeld ?_
        show wpAnyH _ _ _ _ _ _ _ (Act.put _ (some 44) _) _
        simp only [Act.put, List.setIfInBounds_toArray, List.set_cons_zero, List.set_cons_succ]
        refine wpAnyH_take (i := 2) (v := .pointer (some ⟨gq, 1, none⟩)) rfl (by kernel_rfl) (by kernel_rfl) (by kernel_rfl) (fun _ _ _ h => h) (Or.inl ⟨by rfl, by intro w' h; go_simp⟩) hHeld ?_
        show wpAnyH _ _ _ _ _ _ _ (Act.put _ (some 45) _) _
        simp only [Act.put, List.setIfInBounds_toArray, List.set_cons_zero, List.set_cons_succ]
        refine wpAnyH_take (i := 3) (v := .int .i64 t9) rfl (by kernel_rfl) (by kernel_rfl) (by kernel_rfl) (fun _ _ _ h => h) (Or.inl ⟨by rfl, by intro w' h; have k0 := Blk.cell h.2.2 0; have k1 := Blk.cell h.2.2 1; simp only [List.getElem?_cons_zero, List.getElem?_cons_succ] at k0 k1; go_simp⟩) hHeld ?_
        show wpAnyH _ _ _ _ _ _ _ (Act.put _ (some 46) _) _
        simp only [Act.put, List.setIfInBounds_toArray, List.set_cons_zero, List.set_cons_succ]
        refine wpAnyH_ready (rs := [4]) (by kernel_rfl) (by simp) ?_
        refine AllReadyH.cons rfl (fun K hK => ?_) AllReadyH.nil
        refine step_call rfl 48 #[.tmp 44, .tmp 46] #[58, 3] rfl #[.slice na n nc, .int .i64 t9] (by simp [Act.eval]) (by go_simp) (contains_b na n nc l t9 X0 (irow_own (Kp.own HLO.out KX0.out (by decide) (by omega)) HLL.out) HLL.out (by omega)) ?_
        rintro e X1 ⟨rfl, hB⟩
        rw [HMEM.out]
        have GX1 : Hid (Blk X1 w.heap.size 117 [.slice sa sl sc, .slice ea el ec, .int .i64 goal, .int .u64 amt]) := Lib.hid (GX0.out.below hB GX0.out.lt)
        have TX1 : Hid (Blk X1 gt 122 [.slice na n nc, .slice ta tl tc]) := Lib.hid (TX0.out.below hB TX0.out.lt)
        have NX1 : Hid (Blk X1 gq 44 [.int .i64 e9, .int .i64 t9, .int .u64 c9, .int .u64 b9, .int .u64 r9]) := Lib.hid (NX0.out.below hB NX0.out.lt)
        have KX1 : Hid (Kp gl w X1) := Lib.hid (KX0.out.trans (Kp.of_below hB (Nat.le_trans (Nat.le_of_lt hgl) KX0.out.low.size)))
        have FX1 : Hid (Found X1 gl amt ac a1 c1) := Lib.hid (FX0.out.below hB)
        have ZX1 : Hid (X1.ownsRow (gl + 1) 44 5 (.slice (some ⟨bl, ol, none⟩) m xc) m (sflat S)) := Lib.hid (Mon.own_below ZX0.out hB)
        clear GX0 TX0 NX0 KX0 FX0 ZX0 hB
        refine ⟨_, rfl, hK.out _ _ (⟨GX1.out, TX1.out, NX1.out⟩) (fun hHeld => ?_)⟩
        clear hK K
        show wpAnyH _ _ _ _ _ _ _ (Act.put _ (some 47) _) _
        simp only [Act.put, List.setIfInBounds_toArray, List.set_cons_zero, List.set_cons_succ]
        refine wpAnyH_take (i := 5) (v := .bool true) rfl (by kernel_rfl) (by kernel_rfl) (by kernel_rfl) (fun _ _ _ h => h) (Or.inl ⟨by rfl, by intro w' h; go_simp⟩) hHeld ?_
        show wpAnyH _ _ _ _ _ _ _ (Act.put _ (some 48) _) _
        simp only [Act.put, List.setIfInBounds_toArray, List.set_cons_zero, List.set_cons_succ]
        refine wpAnyH_take (i := 6) (v := .bool true) rfl (by kernel_rfl) (by kernel_rfl) (by kernel_rfl) (fun _ _ _ h => h) (Or.inl ⟨by rfl, fun w _ => by rfl⟩) hHeld ?_
        show wpAnyH _ _ _ _ _ _ _ (Act.put _ (some 49) _) _
        simp only [Act.put, List.setIfInBounds_toArray, List.set_cons_zero, List.set_cons_succ]
        refine wpAnyH_take (i := 7) (v := .agg #[.slice sa sl sc, .slice ea el ec, .int .i64 goal, .int .u64 amt]) rfl (by kernel_rfl) (by kernel_rfl) (by kernel_rfl) (fun _ _ _ h => h) (Or.inl ⟨by rfl, by intro w' h; have k0 := Blk.cell h.1 0; have k1 := Blk.cell h.1 1; have k2 := Blk.cell h.1 2; have k3 := Blk.cell h.1 3; simp only [List.getElem?_cons_zero, List.getElem?_cons_succ] at k0 k1 k2 k3; go_simp⟩) hHeld ?_
        show wpAnyH _ _ _ _ _ _ _ (Act.put _ (some 50) _) _
        simp only [Act.put, List.setIfInBounds_toArray, List.set_cons_zero, List.set_cons_succ]
        refine wpAnyH_take (i := 8) (v := .agg #[.slice na n nc, .slice ta tl tc]) rfl (by kernel_rfl) (by kernel_rfl) (by kernel_rfl) (fun _ _ _ h => h) (Or.inl ⟨by rfl, by intro w' h; have k0 := Blk.cell h.2.1 0; have k1 := Blk.cell h.2.1 1; simp only [List.getElem?_cons_zero, List.getElem?_cons_succ] at k0 k1; go_simp⟩) hHeld ?_
        show wpAnyH _ _ _ _ _ _ _ (Act.put _ (some 51) _) _
        simp only [Act.put, List.setIfInBounds_toArray, List.set_cons_zero, List.set_cons_succ]
        refine wpAnyH_take (i := 9) (v := .agg #[.int .i64 e9, .int .i64 t9, .int .u64 c9, .int .u64 b9, .int .u64 r9]) rfl (by kernel_rfl) (by kernel_rfl) (by kernel_rfl) (fun _ _ _ h => h) (Or.inl ⟨by rfl, by intro w' h; have k0 := Blk.cell h.2.2 0; have k1 := Blk.cell h.2.2 1; have k2 := Blk.cell h.2.2 2; have k3 := Blk.cell h.2.2 3; have k4 := Blk.cell h.2.2 4; simp only [List.getElem?_cons_zero, List.getElem?_cons_succ] at k0 k1 k2 k3 k4; go_simp⟩) hHeld ?_
        show wpAnyH _ _ _ _ _ _ _ (Act.put _ (some 52) _) _
        simp only [Act.put, List.setIfInBounds_toArray, List.set_cons_zero, List.set_cons_succ]
        refine wpAnyH_take (i := 11) (v := .func (.func 62) #[] #[.pointer (some ⟨gl, 0, none⟩)]) rfl (by kernel_rfl) (by kernel_rfl) (by kernel_rfl) (fun _ _ _ h => h) (Or.inl ⟨by rfl, fun w _ => by rfl⟩) hHeld ?_
        show wpAnyH _ _ _ _ _ _ _ (Act.put _ (some 54) _) _
        simp only [Act.put, List.setIfInBounds_toArray, List.set_cons_zero, List.set_cons_succ]
        refine wpAnyH_ready (rs := [10]) (by kernel_rfl) (by simp) ?_
        refine AllReadyH.cons rfl (fun K hK => ?_) AllReadyH.nil
        refine step_call rfl 72 #[.tmp 51, .tmp 52] #[122, 44] rfl #[.agg #[.slice na n nc, .slice ta tl tc], .agg #[.int .i64 e9, .int .i64 t9, .int .u64 c9, .int .u64 b9, .int .u64 r9]] (by simp [Act.eval]) (by go_simp) (along_any na n nc ta tl tc l s e9 t9 c9 b9 r9 X1 (irow_own (Kp.own HLO.out KX1.out (by decide) (by omega)) HLL.out) (srow_own (Kp.own HSO.out KX1.out (by decide) (by omega)) HTL.out) HLL.out HTL.out HNN.out HTN.out (by omega) (by omega)) ?_
        rintro e X2 ⟨na2, nc2, ta2, tc2, rfl, hn2, hs2, hB⟩
        rw [HL2.out, HT2.out]
        rw [HL2.out] at hn2
        rw [HT2.out] at hs2
        have GX2 : Hid (Blk X2 w.heap.size 117 [.slice sa sl sc, .slice ea el ec, .int .i64 goal, .int .u64 amt]) := Lib.hid (GX1.out.below hB GX1.out.lt)
        have TX2 : Hid (Blk X2 gt 122 [.slice na n nc, .slice ta tl tc]) := Lib.hid (TX1.out.below hB TX1.out.lt)
        have NX2 : Hid (Blk X2 gq 44 [.int .i64 e9, .int .i64 t9, .int .u64 c9, .int .u64 b9, .int .u64 r9]) := Lib.hid (NX1.out.below hB NX1.out.lt)
        have KX2 : Hid (Kp gl w X2) := Lib.hid (KX1.out.trans (Kp.of_below hB (Nat.le_trans (Nat.le_of_lt hgl) KX1.out.low.size)))
        have FX2 : Hid (Found X2 gl amt ac a1 c1) := Lib.hid (FX1.out.below hB)
        have ZX2 : Hid (X2.ownsRow (gl + 1) 44 5 (.slice (some ⟨bl, ol, none⟩) m xc) m (sflat S)) := Lib.hid (Mon.own_below ZX1.out hB)
        have LX2 : Hid (X2.ownsRow (gl + 1) 3 1 (.slice na2 (n + 1) nc2) (n + 1) (ins (l ++ [t9]))) := Lib.hid (own_lower hn2 (show gl + 1 ≤ X1.heap.size by have := KX1.out.low.size; omega))
        have SX2 : Hid (X2.ownsRow (gl + 1) 44 5 (.slice ta2 (tl + 1) tc2) (tl + 1) (sflat (s ++ [⟨e9, t9, c9, b9, r9⟩]))) := Lib.hid (own_lower hs2 (show gl + 1 ≤ X1.heap.size by have := KX1.out.low.size; omega))
        clear hn2 hs2
        clear GX1 TX1 NX1 KX1 FX1 ZX1 hB
        refine ⟨_, rfl, hK.out _ _ (⟨GX2.out, TX2.out, NX2.out⟩) (fun hHeld => ?_)⟩
        clear hK K
        show wpAnyH _ _ _ _ _ _ _ (Act.put _ (some 53) _) _
        simp only [Act.put, List.setIfInBounds_toArray, List.set_cons_zero, List.set_cons_succ]
        refine wpAnyH_ready (rs := [12]) (by kernel_rfl) (by simp) ?_
        refine AllReadyH.cons rfl (fun K hK => ?_) AllReadyH.nil
        refine step_call rfl 60 #[.tmp 50, .tmp 53, .tmp 54] #[117, 122, 124] rfl #[.agg #[.slice sa sl sc, .slice ea el ec, .int .i64 goal, .int .u64 amt], .agg #[.slice na2 (n + 1) nc2, .slice ta2 (tl + 1) tc2], .func (.func 62) #[] #[.pointer (some ⟨gl, 0, none⟩)]] (by simp [Act.eval]) (by go_simp) (HIH.out na2 (n + 1) nc2 ta2 (tl + 1) tc2 (l ++ [t9]) (s ++ [⟨e9, t9, c9, b9, r9⟩]) ac a1 c1 X2 HL2.out (by omega) HT2.out (by have := H7.out; omega) (by have := HNT.out; omega) LX2.out SX2.out FX2.out HAC.out HWQ.out (fun _ => by omega) (HW0.out.trans (KX2.out.low.mono hg0))) ?_
        rintro e X3 ⟨ac2, b, rfl, hE2, ⟨a2, c2, hF2⟩, hK⟩
        have KX3 := Lib.hid (KX2.out.trans hK)
        have FX3 := Lib.hid hF2
        have GX3 := Lib.hid (hK.keep _ _ _ GX2.out (by decide) (by omega))
        have TX3 := Lib.hid (hK.keep _ _ _ TX2.out (by decide) (by omega))
        have NX3 := Lib.hid (hK.keep _ _ _ NX2.out (by decide) (by have := HGQ.out; omega))
        have ZX3 := Lib.hid (Kp.own ZX2.out hK (by decide) (by omega))
        have HE2 := Lib.hid hE2
        clear KX2 FX2 GX2 TX2 NX2 ZX2 LX2 SX2 hK hF2 hE2
        refine ⟨_, rfl, hK.out _ _ (⟨GX3.out, TX3.out, NX3.out⟩) (fun hHeld => ?_)⟩
        clear hK K
        show wpAnyH _ _ _ _ _ _ _ (Act.put _ (some 55) _) _
        simp only [Act.put, List.setIfInBounds_toArray, List.set_cons_zero, List.set_cons_succ]
        refine wpAnyH_take (i := 13) (v := .bool (!b)) rfl (by kernel_rfl) (by kernel_rfl) (by kernel_rfl) (fun _ _ _ h => h) (Or.inl ⟨by rfl, by intro w' h; go_simp⟩) hHeld ?_
        show wpAnyH _ _ _ _ _ _ _ (Act.put _ (some 56) _) _
        simp only [Act.put, List.setIfInBounds_toArray, List.set_cons_zero, List.set_cons_succ]
        refine wpAnyH_take (i := 14) (v := .bool (!b)) rfl (by kernel_rfl) (by kernel_rfl) (by kernel_rfl) (fun _ _ _ h => h) (Or.inl ⟨by rfl, by intro w hSw; first | rfl | go_simp⟩) hHeld ?_
        show wpAnyH _ _ _ _ _ _ _ (Act.put _ (some 57) _) _
        simp only [Act.put, List.setIfInBounds_toArray, List.set_cons_zero, List.set_cons_succ]
        refine wpAnyH_done (by kernel_rfl) ?_ _
        clear hHeld
        clear NX3
        cases b with
        | true =>
          have HRS := Lib.hid (HST.out.2.1 (of_decide_eq_false HMEM.out) (by rw [HFQ.out, HE2.out]))
          rw [HFQ.out, HE2.out] at HRS
          have HA2 : Hid (ac2.length < 32) := Lib.hid (by have h9 := (eachL_small (sl := sl) (es := es) (goal := goal) (amt := amt) f (l ++ [t9]) (s ++ [⟨e9, t9, c9, b9, r9⟩]) (ac.map Rt.tr) (by rw [List.length_map]; exact HAC.out)).2 (by rw [HE2.out]); rw [HE2.out] at h9; simpa using h9)
          clear HST HMEM HE2 HFQ
          go_wp2
          go_roundw
          case rel => exact ⟨i + 1, ac2, a2, c2, by omega, by go_num, HRS, HA2, FX3, GX3, TX3, ZX3, KX3⟩
          case measure => simp [intOf]; omega
        | false =>
          have HRS := Lib.hid (HST.out.2.2 (of_decide_eq_false HMEM.out) (by rw [HFQ.out, HE2.out]))
          rw [HFQ.out, HE2.out] at HRS
          clear HST HMEM HE2 HFQ
          go_wp2
          go_ret
          exact ⟨ac2, false, rfl, by rw [HRR.out]; exact HRS.out.symm, ⟨a2, c2, FX3.out⟩, KX3.out⟩
    · obtain rfl : m = i := by omega
      have HRS : Hid ((ac.map Rt.tr, true) = R) := Lib.hid (by have h9 := HGR.out; rw [← HMM.out, List.drop_length] at h9; exact h9)
      clear HGR Zr Gr Tr_
      go_wp2
      go_ret
      exact ⟨ac, true, rfl, by rw [HRR.out]; exact HRS.out.symm, ⟨a1, c1, Fr.out⟩, Kr.out⟩
end Go.Proofs.Ytnnimjaigciedaa
