/-
  A ring's signature off bytes: Take (function 58), off any In.
-/
import Derived.Test.YtkonokjhpddbfaaDoorRngBD
import Derived.Test.YtkonokjhpddbfaaDoorRngK
namespace Go.Proofs.YtkonokjhpddbfaaDoor
open Go.RowKit
set_option linter.unusedVariables false

theorem InG_Z {w : World} {g e : Nat} {l : List Nat} (h : Oct.InG w g l e) : InZ w g l e 0 := by
  unfold Oct.InG at h
  unfold InZ
  split at h
  · rename_i hc
    rw [if_pos hc]
    unfold InK
    rw [if_pos (by omega)]
    exact h
  · rename_i hc
    rw [if_neg hc]
    exact h
theorem InZ_G {w : World} {g e k : Nat} {l : List Nat} (h : InZ w g l e k) : Oct.InG w g (Oct.aftL l (32 * k)) (Oct.aftE l e (32 * k)) := by
  unfold InZ at h
  by_cases he : e = 0
  · rw [if_pos he] at h
    unfold InK at h
    by_cases hk : 32 * k ≤ l.length
    · rw [if_pos hk] at h
      have e2 : Oct.aftE l e (32 * k) = 0 := by unfold Oct.aftE; rw [if_neg (fun h => h he), if_pos hk]
      have e3 : Oct.aftL l (32 * k) = l.drop (32 * k) := by unfold Oct.aftL; rw [if_pos hk]
      rw [e2, e3]
      unfold Oct.InG
      rw [if_pos rfl]
      exact h
    · rw [if_neg hk] at h
      have e2 : Oct.aftE l e (32 * k) = 9 := by unfold Oct.aftE; rw [if_neg (fun h => h he), if_neg hk]
      have e3 : Oct.aftL l (32 * k) = [] := by unfold Oct.aftL; rw [if_neg hk]
      rw [e2, e3]
      unfold Oct.InG
      rw [if_neg (by omega)]
      exact ⟨h, rfl⟩
  · rw [if_neg he] at h
    obtain ⟨h0, rfl⟩ := h
    have e2 : Oct.aftE [] e (32 * k) = e := by unfold Oct.aftE; rw [if_pos he]
    have e3 : Oct.aftL [] (32 * k) = [] := by unfold Oct.aftL; split <;> simp
    rw [e2, e3]
    unfold Oct.InG
    rw [if_neg he]
    exact ⟨h0, rfl⟩
theorem manyV_le (l : List Nat) (M : Nat) : Oct.manyV l M ≤ M := by unfold Oct.manyV; split <;> omega
theorem aftL_lt {l : List Nat} (n : Nat) (h : ∀ x ∈ l, x < 256) : ∀ x ∈ Oct.aftL l n, x < 256 := by
  unfold Oct.aftL
  split
  · exact fun x hx => h x (List.mem_of_mem_drop hx)
  · intro x hx; cases hx
def tkS (l0 : List Nat) : List Nat := takeN (Oct.manyL (Oct.aftL l0 4) 8)
def tkM (l0 : List Nat) : Nat := Oct.manyV (Oct.aftL l0 4) 8
def tkE (l0 : List Nat) (e0 : Nat) : Nat := Oct.aftE (Oct.manyL (Oct.aftL l0 4) 8) (Oct.manyE (Oct.aftL l0 4) (Oct.aftE l0 e0 4) 8) (32 * (32 + tkM l0))
def tkL (l0 : List Nat) : List Nat := Oct.aftL (Oct.manyL (Oct.aftL l0 4) 8) (32 * (32 + tkM l0))
def tkW (l0 : List Nat) : Nat → List Nat := fun i => tk (Oct.manyL (Oct.aftL l0 4) 8) (32 + i)
/-- What Take answers, and what is left of the In. -/
def TakePost (w : World) (g : Nat) (l0 : List Nat) (e0 : Nat) (r : Ending) (w' : World) : Prop :=
  Oct.InG w' g (tkL l0) (tkE l0 e0) ∧ w.grownBy w' (some g) ∧ (tkE l0 e0 = 0 → ∃ gw, r = .returned (.agg (rsg (tkS l0) (Oct.numG l0 4) (.slice (some ⟨gw, 0, none⟩) (tkM l0) (tkM l0))).toArray) ∧ Blk w' gw 36 (w8 (rows (tkW l0) (tkM l0)))) ∧ (tkE l0 e0 ≠ 0 → r = .returned (.agg zsig.toArray))
theorem takePost_ok {w w' : World} {g e0 key m e2 e3 gw : Nat} {l0 l2 l3 : List Nat} (hkey : Oct.numG l0 4 = key) (hmm : Oct.manyV (Oct.aftL l0 4) 8 = m) (hl2 : Oct.manyL (Oct.aftL l0 4) 8 = l2) (he2 : Oct.manyE (Oct.aftL l0 4) (Oct.aftE l0 e0 4) 8 = e2)
    (he3 : Oct.aftE l2 e2 (32 * (32 + m)) = e3) (hl3 : Oct.aftL l2 (32 * (32 + m)) = l3) (hz : e3 = 0) (hI : Oct.InG w' g l3 e3) (hG : w.grownBy w' (some g)) (hM : Blk w' gw 36 (w8 (rows (fun i => tk l2 (32 + i)) m))) :
    TakePost w g l0 e0 (.returned (.agg (rsg (takeN l2) key (.slice (some ⟨gw, 0, none⟩) m m)).toArray)) w' := by
  have hz' : tkE l0 e0 = 0 := by unfold tkE tkM; rw [hl2, he2, hmm, he3, hz]
  rw [hz] at he3
  subst hl3
  subst hkey
  subst hmm
  subst hl2
  subst he2
  refine ⟨?_, hG, fun _ => ⟨gw, rfl, hM⟩, fun h => absurd hz' h⟩
  rw [hz', ← hz]
  exact hI
theorem takePost_no {w w' : World} {g e0 key m e2 e3 : Nat} {l0 l2 l3 : List Nat} (hkey : Oct.numG l0 4 = key) (hmm : Oct.manyV (Oct.aftL l0 4) 8 = m) (hl2 : Oct.manyL (Oct.aftL l0 4) 8 = l2) (he2 : Oct.manyE (Oct.aftL l0 4) (Oct.aftE l0 e0 4) 8 = e2)
    (he3 : Oct.aftE l2 e2 (32 * (32 + m)) = e3) (hl3 : Oct.aftL l2 (32 * (32 + m)) = l3) (hz : ¬ e3 = 0) (hI : Oct.InG w' g l3 e3) (hG : w.grownBy w' (some g)) :
    TakePost w g l0 e0 (.returned (.agg zsig.toArray)) w' := by
  have h' : tkE l0 e0 = e3 := by unfold tkE tkM; rw [hl2, he2, hmm, he3]
  subst hl3
  subst hkey
  subst hmm
  subst hl2
  subst he2
  refine ⟨?_, hG, fun h => absurd (h'.symm.trans h) hz, fun _ => rfl⟩
  rw [h']
  exact hI
set_option maxRecDepth 100000 in
set_option maxHeartbeats 4000000 in
theorem ringtake_any (g : Nat) (l0 : List Nat) (e0 : Nat) (w : World) (HI : Hid (Oct.InG w g l0 e0)) (HL : Hid (∀ x ∈ l0, x < 256)) :
    Calls Tryd.prog 58 #[.pointer (some ⟨g, 0, none⟩)] w (TakePost w g l0 e0) := by
  have HSZ : Hid ((Tryd.prog.info? 94).map (·.size) = some zsig.toArray.size) := Lib.hid (by rw [List.size_toArray, zsig_length]; exact info94)
  have HOZ := Lib.hid (all_oneCell_toArray zsig_one)
  have hgw := HI.out.lt
  obtain ⟨i0, hi, hz0, hz1, hz2⟩ := info_parts info36f
  have hF : ∀ a, ((fun i => tk (Oct.manyL (Oct.aftL l0 4) 8) (32 + i)) a).length = 32 := fun a => tk_length _ _
  go_enter Tryd.func58, Tryd.ntmps58
  go_upto_region 1 with fail
  have hB : Below w.heap.size w (w.alloc (.cells Tryd.zeroCells94 94)) := (Below.refl _ _).alloc (Nat.le_refl _) _
  have QV : Hid (Blk (w.alloc (.cells Tryd.zeroCells94 94)) w.heap.size 94 zsig) := Lib.hid (by
    have h := Blk.new w 94 zsig
    rw [zsig_arr] at h
    exact h)
  have IV := Lib.hid (HI.out.below hB)
  have GV : Hid (w.grownBy (w.alloc (.cells Tryd.zeroCells94 94)) (some g)) := Lib.hid (Oct.Below.grownBy hB _)
  clear hB
  generalize w.alloc (.cells Tryd.zeroCells94 94) = V at QV IV GV ⊢
  go_wp2_with fail
  refine (Oct.four_G g e0 l0 V IV HL).mono ?_
  rintro e U1 ⟨rfl, hi1, hg1⟩
  have Q1 := Lib.hid (QV.out.grown hg1 (fun e => by injection e with e; omega))
  have I1 := Lib.hid hi1
  have G1 := Lib.hid (GV.out.trans hg1)
  have HL1 := Lib.hid (aftL_lt 4 HL.out)
  clear hi1 hg1 QV IV GV
  go_wp2_with fail
  refine (Oct.many_G 8 (by omega) g _ _ U1 I1 HL1).mono ?_
  rintro e U2 ⟨rfl, hi1, hg1⟩
  have QU2 := Lib.hid (Q1.out.grown hg1 (fun e => by injection e with e; omega))
  have IU2 := Lib.hid (InG_Z hi1)
  have GU2 := Lib.hid (G1.out.trans hg1)
  have hm8 := manyV_le (Oct.aftL l0 4) 8
  clear hi1 hg1 Q1 I1 G1
  obtain ⟨key, hkey⟩ : ∃ q, Oct.numG l0 4 = q := ⟨_, rfl⟩
  obtain ⟨m, hmm⟩ : ∃ q, Oct.manyV (Oct.aftL l0 4) 8 = q := ⟨_, rfl⟩
  obtain ⟨l2, hl2⟩ : ∃ q, Oct.manyL (Oct.aftL l0 4) 8 = q := ⟨_, rfl⟩
  obtain ⟨e2, he2⟩ : ∃ q, Oct.manyE (Oct.aftL l0 4) (Oct.aftE l0 e0 4) 8 = q := ⟨_, rfl⟩
  rw [hl2, he2] at IU2
  rw [hl2] at hF
  rw [hmm] at hm8 ⊢
  rw [hkey]
  have hm8i : (m : Int) ≤ 8 := by omega
  go_upto_region 2 with fail
  have hBz : Below U2.heap.size U2 U2.drew := below_drewN (Below.refl _ _) 1
  have QX0 : Hid (Blk U2.drew w.heap.size 94 zsig) := Lib.hid (QU2.out.below hBz QU2.out.lt)
  have IX0 : Hid (InZ U2.drew g l2 e2 0) := Lib.hid (IU2.out.below hBz)
  have GX0 : Hid (w.grownBy U2.drew (some g)) := Lib.hid (Oct.only_below GU2.out hBz)
  clear hBz
  refine wp_region_held_drew (S := fun w' => True) (by kernel_rfl) (trivial) (fun hHeld => ?_)
  generalize U2.drew = X0 at hHeld QX0 IX0 GX0 ⊢
  refine wpAnyH_take (i := 0) (v := .pointer (some ⟨g, 0, none⟩)) rfl (by kernel_rfl) (by kernel_rfl) (by kernel_rfl) (fun _ _ _ h => h) (Or.inl ⟨by rfl, fun w _ => by rfl⟩) hHeld ?_
  show wpAnyH _ _ _ _ _ _ _ (Act.put _ (some 11) _) _
  simp only [Act.put, List.setIfInBounds_toArray, List.set_cons_zero, List.set_cons_succ]
  refine wpAnyH_take (i := 2) (v := .int .u32 (key : Int)) rfl (by kernel_rfl) (by kernel_rfl) (by kernel_rfl) (fun _ _ _ h => h) (Or.inl ⟨by rfl, fun w _ => by rfl⟩) hHeld ?_
  show wpAnyH _ _ _ _ _ _ _ (Act.put _ (some 13) _) _
  simp only [Act.put, List.setIfInBounds_toArray, List.set_cons_zero, List.set_cons_succ]
  refine wpAnyH_take (i := 3) (v := .int .i64 (m : Int)) rfl (by kernel_rfl) (by kernel_rfl) (by kernel_rfl) (fun _ _ _ h => h) (Or.inl ⟨by rfl, fun w _ => by rfl⟩) hHeld ?_
  show wpAnyH _ _ _ _ _ _ _ (Act.put _ (some 14) _) _
  simp only [Act.put, List.setIfInBounds_toArray, List.set_cons_zero, List.set_cons_succ]
  refine wpAnyH_ready (rs := [1, 4, 6]) (by kernel_rfl) (by simp) ?_
  refine AllReadyH.cons rfl (fun K hK => ?_) (AllReadyH.cons rfl (fun K hK => ?_) (AllReadyH.cons rfl (fun K hK => ?_) AllReadyH.nil))
  · refine step_call rfl 31 #[.tmp 11] #[64] rfl #[.pointer (some ⟨g, 0, none⟩)] (by simp [Act.eval]) (by go_simp) (take_lampz g l2 e2 X0 IX0) ?_
    rintro e X1 ⟨rfl, hi, hg⟩
    have IX1 := Lib.hid hi
    have QX1 := Lib.hid (QX0.out.grown hg (fun e => by injection e with e; omega))
    have GX1 := Lib.hid (GX0.out.trans hg)
    clear hi hg QX0 IX0 GX0
    refine ⟨_, rfl, ?_⟩
    refine hK.out _ _ (trivial) (fun hHeld => ?_)
    clear hK K
    show wpAnyH _ _ _ _ _ _ _ (Act.put _ (some 12) _) _
    simp only [Act.put, List.setIfInBounds_toArray, List.set_cons_zero, List.set_cons_succ]
    refine wpAnyH_ready (rs := [4, 6]) (by kernel_rfl) (by simp) ?_
    refine AllReadyH.cons rfl (fun K hK => ?_) (AllReadyH.cons rfl (fun K hK => ?_) AllReadyH.nil)
    · obtain ⟨X2, hrun, hown, hg⟩ := run_make_full (P := Tryd.prog) X1 0 92 36 i0 (.agg zsum) 32 Tryd.underlying92 hi hz0 hz1 .i64 .i64 m (by rw [hz2]; omega) (by unfold maxLen; omega) (Nat.zero_le _)
      refine Kt.step_make rfl 92 (.tmp 14) (.tmp 14) rfl (.slice (some ⟨X1.heap.size, 0, none⟩) m m) X2 hrun ?_
      have hB : Below X1.heap.size X1 X2 := (Below.refl _ _).grown hg (Nat.le_refl _) (by simp)
      obtain ⟨hr, _⟩ := own_full hown
      rw [show (Value.agg zsum).cells = zsum from rfl, made_sums, ← sumsC_zero (fun i => tk l2 (32 + i)) m] at hr
      have hgq := QX1.out.lt
      obtain ⟨g15, hg15⟩ : ∃ q, X1.heap.size = q := ⟨_, rfl⟩
      rw [hg15] at hr hgq ⊢
      clear hrun hown hg hg15
      have QX2 : Hid (Blk X2 w.heap.size 94 zsig) := Lib.hid (QX1.out.below hB QX1.out.lt)
      have IX2 : Hid (InZ X2 g l2 e2 32) := Lib.hid (IX1.out.below hB)
      have GX2 : Hid (w.grownBy X2 (some g)) := Lib.hid (Oct.only_below GX1.out hB)
      have MX2 : Hid (Blk X2 g15 36 (w8 (sumsC (fun i => tk l2 (32 + i)) m 0))) := Lib.hid (hr)
      clear QX1 IX1 GX1 hB hr
      refine hK.out _ _ (trivial) (fun hHeld => ?_)
      clear hK K
      show wpAnyH _ _ _ _ _ _ _ (Act.put _ (some 15) _) _
      simp only [Act.put, List.setIfInBounds_toArray, List.set_cons_zero, List.set_cons_succ]
      refine wpAnyH_take (i := 5) (v := .agg (rsg (takeN l2) key (.slice (some ⟨g15, 0, none⟩) m m)).toArray) rfl (by kernel_rfl) (by kernel_rfl) (by kernel_rfl) (fun _ _ _ h => h) (Or.inl ⟨by rfl, fun w' h => run_build_op rfl (by simp [Act.eval]) (build94 (takeN l2) key (some ⟨g15, 0, none⟩, m, m) (takeN_length l2) w')⟩) hHeld ?_
      show wpAnyH _ _ _ _ _ _ _ (Act.put _ (some 16) _) _
      simp only [Act.put, List.setIfInBounds_toArray, List.set_cons_zero, List.set_cons_succ]
      refine wpAnyH_ready (rs := [6]) (by kernel_rfl) (by simp) ?_
      refine AllReadyH.cons rfl (fun K hK => ?_) AllReadyH.nil
      refine Kt.step_new rfl 94 rfl Tryd.zeroCells94 (.pointer (some ⟨X2.heap.size, 0, none⟩)) (by kernel_rfl) ?_
      have hB : Below X2.heap.size X2 (X2.alloc (.cells Tryd.zeroCells94 94)) := (Below.refl _ _).alloc (Nat.le_refl _) _
      have hZ : Blk (X2.alloc (.cells Tryd.zeroCells94 94)) X2.heap.size 94 zsig := by
        have h := Blk.new X2 94 zsig
        rw [zsig_arr] at h
        exact h
      have hg3q := QX2.out.lt
      generalize X2.alloc (.cells Tryd.zeroCells94 94) = X3 at hB hZ ⊢
      obtain ⟨g3, hg3⟩ : ∃ q, X2.heap.size = q := ⟨_, rfl⟩
      rw [hg3] at hZ hg3q ⊢
      clear hg3
      have QX3 : Hid (Blk X3 w.heap.size 94 zsig) := Lib.hid (QX2.out.below hB QX2.out.lt)
      have IX3 : Hid (InZ X3 g l2 e2 32) := Lib.hid (IX2.out.below hB)
      have GX3 : Hid (w.grownBy X3 (some g)) := Lib.hid (Oct.only_below GX2.out hB)
      have MX3 : Hid (Blk X3 g15 36 (w8 (sumsC (fun i => tk l2 (32 + i)) m 0))) := Lib.hid (MX2.out.below hB MX2.out.lt)
      have ZX3 : Hid (Blk X3 g3 94 zsig) := Lib.hid (hZ)
      clear QX2 IX2 GX2 MX2 hB hZ
      refine hK.out _ _ (trivial) (fun hHeld => ?_)
      clear hK K
      show wpAnyH _ _ _ _ _ _ _ (Act.put _ (some 5) _) _
      simp only [Act.put, List.setIfInBounds_toArray, List.set_cons_zero, List.set_cons_succ]
      refine wpAnyH_ready (rs := [7]) (by kernel_rfl) (by simp) ?_
      refine AllReadyH.cons rfl (fun K hK => ?_) AllReadyH.nil
      refine Kt.step_store rfl 94 (.tmp 5) (.tmp 16) rfl g3 (rsg (takeN l2) key (.slice (some ⟨g15, 0, none⟩) m m)) rfl rfl 94 _ ZX3.out (by rw [rsg_length _ _ _ (takeN_length l2)]; exact info94) (by rw [zsig_length, rsg_length _ _ _ (takeN_length l2)]) (all_oneCell_toArray (rsg_one _ _ _ rfl)) ?_
      intro X4 hZ hO
      have QX4 := Lib.hid (QX3.out.grown hO (fun e => by injection e with e; omega))
      have MX4 := Lib.hid (MX3.out.grown hO (fun e => by injection e with e; exact Blk.ne_ ZX3.out MX3.out (by decide) e.symm))
      have IX4 := Lib.hid (IX3.out.far hO (by omega))
      have GX4 : Hid (w.grownBy X4 (some g)) := Lib.hid (grown_new' GX3.out hO (fun b hb => by injection hb with hb; omega))
      have ZX4 := Lib.hid hZ
      clear hZ hO QX3 MX3 IX3 GX3 ZX3
      refine hK.out _ _ (trivial) (fun hHeld => ?_)
      clear hK K
      show wpAnyH _ _ _ _ _ _ _ (Act.put _ none _) _
      simp only [Act.put]
      refine wpAnyH_done (by kernel_rfl) ?_ _
      clear hHeld
      go_upto_region 3 with fail
      go_wp2_with fail
      go_loopw [18, 6] (fun i _ wr => ∃ (k : Nat), k ≤ m ∧ i = .int .i64 k ∧ Hid (Blk wr w.heap.size 94 zsig) ∧ Hid (InZ wr g l2 e2 (32 + k)) ∧ Hid (w.grownBy wr (some g)) ∧ Hid (Blk wr g15 36 (w8 (sumsC (fun i => tk l2 (32 + i)) m k))) ∧ Hid (Blk wr g3 94 (rsg (takeN l2) key (.slice (some ⟨g15, 0, none⟩) m m)))) (fun i _ _ => m - (intOf i).toNat)
      case atStart => exact ⟨0, Nat.zero_le _, rfl, QX4, IX4, GX4, MX4, ZX4⟩
      case round =>
        clear QX4 IX4 GX4 MX4 ZX4
        obtain ⟨k, hk, rfl, Qr, Ir, Gr, Mr, Zr⟩ := hrel
        by_cases hlt : k < m
        · have k1 : (k : Int) < (m : Int) := by omega
          have k2 : (k : Int) ≤ 8 := by omega
          go_upto_region 6 with fail
          have hBz : Below wr.heap.size wr wr.drew := below_drewN (Below.refl _ _) 1
          have QY0 : Hid (Blk wr.drew w.heap.size 94 zsig) := Lib.hid (Qr.out.below hBz Qr.out.lt)
          have IY0 : Hid (InZ wr.drew g l2 e2 (32 + k)) := Lib.hid (Ir.out.below hBz)
          have GY0 : Hid (w.grownBy wr.drew (some g)) := Lib.hid (Oct.only_below Gr.out hBz)
          have MY0 : Hid (Blk wr.drew g15 36 (w8 (sumsC (fun i => tk l2 (32 + i)) m k))) := Lib.hid (Mr.out.below hBz Mr.out.lt)
          have ZY0 : Hid (Blk wr.drew g3 94 (rsg (takeN l2) key (.slice (some ⟨g15, 0, none⟩) m m))) := Lib.hid (Zr.out.below hBz Zr.out.lt)
          clear hBz
          refine wp_region_held_drew (S := fun w' => Blk w' g3 94 (rsg (takeN l2) key (.slice (some ⟨g15, 0, none⟩) m m))) (by kernel_rfl) (ZY0.out) (fun hHeld => ?_)
          generalize wr.drew = Y0 at hHeld QY0 IY0 GY0 MY0 ZY0 ⊢
          refine wpAnyH_take (i := 0) (v := .pointer (some ⟨g3, 1025, none⟩)) rfl (by kernel_rfl) (by kernel_rfl) (by kernel_rfl) (fun _ _ _ h => h) (Or.inl ⟨by rfl, by intro w' h; go_simp⟩) hHeld ?_
          show wpAnyH _ _ _ _ _ _ _ (Act.put _ (some 21) _) _
          simp only [Act.put, List.setIfInBounds_toArray, List.set_cons_zero, List.set_cons_succ]
          refine wpAnyH_take (i := 1) (v := .slice (some ⟨g15, 0, none⟩) m m) rfl (by kernel_rfl) (by kernel_rfl) (by kernel_rfl) (fun _ _ _ h => h) (Or.inl ⟨by rfl, by intro w' h; have q9 := Blk.cell h 1025; rw [rsg_way _ _ _ (takeN_length l2)] at q9; go_simp⟩) hHeld ?_
          show wpAnyH _ _ _ _ _ _ _ (Act.put _ (some 22) _) _
          simp only [Act.put, List.setIfInBounds_toArray, List.set_cons_zero, List.set_cons_succ]
          refine wpAnyH_take (i := 2) (v := .int .i64 (k : Int)) rfl (by kernel_rfl) (by kernel_rfl) (by kernel_rfl) (fun _ _ _ h => h) (Or.inl ⟨by rfl, fun w _ => by rfl⟩) hHeld ?_
          show wpAnyH _ _ _ _ _ _ _ (Act.put _ (some 23) _) _
          simp only [Act.put, List.setIfInBounds_toArray, List.set_cons_zero, List.set_cons_succ]
          refine wpAnyH_take (i := 3) (v := .pointer (some ⟨g, 0, none⟩)) rfl (by kernel_rfl) (by kernel_rfl) (by kernel_rfl) (fun _ _ _ h => h) (Or.inl ⟨by rfl, fun w _ => by rfl⟩) hHeld ?_
          show wpAnyH _ _ _ _ _ _ _ (Act.put _ (some 24) _) _
          simp only [Act.put, List.setIfInBounds_toArray, List.set_cons_zero, List.set_cons_succ]
          refine wpAnyH_ready (rs := [4]) (by kernel_rfl) (by simp) ?_
          refine AllReadyH.cons rfl (fun K hK => ?_) AllReadyH.nil
          refine step_call rfl 72 #[.tmp 24] #[64] rfl #[.pointer (some ⟨g, 0, none⟩)] (by simp [Act.eval]) (by go_simp) (insumz_any g l2 e2 (32 + k) Y0 IY0) ?_
          rintro e X1 ⟨rfl, hi, hg⟩
          have IX1 : Hid (InZ X1 g l2 e2 (32 + (k + 1))) := Lib.hid hi
          have QX1 := Lib.hid (QY0.out.grown hg (fun e => by injection e with e; omega))
          have MX1 := Lib.hid (MY0.out.grown hg (fun e => by injection e with e; omega))
          have ZX1 := Lib.hid (ZY0.out.grown hg (fun e => by injection e with e; omega))
          have GX1 := Lib.hid (GY0.out.trans hg)
          clear hi hg QY0 IY0 GY0 MY0 ZY0
          refine ⟨_, rfl, ?_⟩
          refine hK.out _ _ (ZX1.out) (fun hHeld => ?_)
          clear hK K
          show wpAnyH _ _ _ _ _ _ _ (Act.put _ (some 25) _) _
          simp only [Act.put, List.setIfInBounds_toArray, List.set_cons_zero, List.set_cons_succ]
          refine wpAnyH_take (i := 5) (v := .pointer (some ⟨g15, k * 32, none⟩)) rfl (by kernel_rfl) (by kernel_rfl) (by kernel_rfl) (fun _ _ _ h => h) (Or.inl ⟨by rfl, by intro w' h; go_simp⟩) hHeld ?_
          show wpAnyH _ _ _ _ _ _ _ (Act.put _ (some 26) _) _
          simp only [Act.put, List.setIfInBounds_toArray, List.set_cons_zero, List.set_cons_succ]
          refine wpAnyH_ready (rs := [6]) (by kernel_rfl) (by simp) ?_
          refine AllReadyH.cons rfl (fun K hK => ?_) AllReadyH.nil
          refine step_store_mid rfl 36 (.tmp 26) (.tmp 25) rfl g15 (k * 32) (w8 (tk l2 (32 + k))) rfl rfl (MX1.out.there _ _ (by rw [w8_length, w8_length, tk_length, sumsC_length (fun i => tk l2 (32 + i)) hF m k (by omega)]; omega)) (by rw [w8_length, tk_length]; exact info36) (w8_one _) ?_
          have hO : X1.grownBy (X1.setCells g15 (k * 32) (w8 (tk l2 (32 + k)))) (some g15) := only_cells _ _ _
          have MX2 : Hid (Blk (X1.setCells g15 (k * 32) (w8 (tk l2 (32 + k)))) g15 36 (w8 (sumsC (fun i => tk l2 (32 + i)) m (k + 1)))) := Lib.hid (Blk.put8' (fun i => tk l2 (32 + i)) hF m k hlt MX1.out)
          have QX2 := Lib.hid (QX1.out.grown hO (fun e => by injection e with e; omega))
          have ZX2 := Lib.hid (ZX1.out.grown hO (fun e => by injection e with e; exact Blk.ne_ ZX1.out MX1.out (by decide) e))
          have IX2 := Lib.hid (IX1.out.far hO (by omega))
          have GX2 := Lib.hid (grown_new' GX1.out hO (fun b hb => by injection hb with hb; omega))
          clear hO QX1 IX1 GX1 MX1 ZX1
          generalize X1.setCells g15 (k * 32) (w8 (tk l2 (32 + k))) = X2 at MX2 QX2 ZX2 IX2 GX2 ⊢
          refine hK.out _ _ (ZX2.out) (fun hHeld => ?_)
          clear hK K
          show wpAnyH _ _ _ _ _ _ _ (Act.put _ none _) _
          simp only [Act.put]
          refine wpAnyH_done (by kernel_rfl) ?_ _
          clear hHeld
          go_wp2
          go_roundw
          case rel => exact ⟨k + 1, by omega, by go_num, QX2, IX2, GX2, MX2, ZX2⟩
          case measure => simp [intOf]; omega
        · obtain rfl : k = m := by omega
          have IG := Lib.hid (InZ_G Ir.out)
          obtain ⟨e3, he3⟩ : ∃ q, Oct.aftE l2 e2 (32 * (32 + k)) = q := ⟨_, rfl⟩
          obtain ⟨l3, hl3⟩ : ∃ q, Oct.aftL l2 (32 * (32 + k)) = q := ⟨_, rfl⟩
          rw [he3, hl3] at IG
          have HEN := Lib.hid (And.intro he3 hl3)
          clear he3 hl3
          go_wp2_with fail
          refine (Oct.bad_G g e3 l3 wr IG).mono ?_
          rintro e w1 ⟨rfl, rfl⟩
          by_cases hz : e3 = 0
          · have hzi : (e3 : Int) = 0 := by omega
            have hO : wr.grownBy (wr.setRow w.heap.size (rsg (takeN l2) key (.slice (some ⟨g15, 0, none⟩) k k)).toArray) (some w.heap.size) := only_setRow (only_refl _ _) _
            have HI9 := Lib.hid (IG.out.far hO (by omega))
            have HG9 : Hid (w.grownBy (wr.setRow w.heap.size (rsg (takeN l2) key (.slice (some ⟨g15, 0, none⟩) k k)).toArray) (some g)) := Lib.hid (grown_new' Gr.out hO (fun b hb => by injection hb with hb; omega))
            have HM9 := Lib.hid (Mr.out.grown hO (fun e => by injection e with e; omega))
            have HP9 := Lib.hid (sig_put (takeN l2) key (some ⟨g15, 0, none⟩) k k (takeN_length l2))
            have HZ9 : Hid (zsig.toArray.size = (rsg (takeN l2) key (.slice (some ⟨g15, 0, none⟩) k k)).toArray.size) := Lib.hid (by rw [zsig_arr]; exact HP9.out.2.1)
            have HRZ := Lib.hid Zr.out.all
            go_wp2_with (first | (refine wpList_load_mid rfl 94 (.tmp 5) rfl g3 0 rfl (rsg (takeN l2) key (.slice (some ⟨g15, 0, none⟩) k k)) _ HRZ.out Tryd.underlying94 rfl (by rw [rsg_length _ _ _ (takeN_length l2)]; exact info94) ?_) | (refine wpList_store_row rfl 94 (.tmp 2) (.tmp 32) rfl w.heap.size (rsg (takeN l2) key (.slice (some ⟨g15, 0, none⟩) k k)).toArray rfl rfl 94 _ Qr.out HP9.out.1 HZ9.out HP9.out.2.2 ?_))
            exact bodyPost_ret (v := .agg (rsg (takeN l2) key (.slice (some ⟨g15, 0, none⟩) k k)).toArray) (results_cell_row Tryd.results58 _ _ w.heap.size 94 (rsg (takeN l2) key (.slice (some ⟨g15, 0, none⟩) k k)).toArray (0, 0) _ rfl (Qr.out.setRow _) Tryd.underlying94 rfl HP9.out.1) rfl (takePost_ok hkey hmm hl2 he2 HEN.out.1 HEN.out.2 hz HI9.out HG9.out (by rw [← sumsC_end]; exact HM9.out))
          · have hzi : ¬ ((e3 : Int) = 0) := by omega
            have hO : wr.grownBy (wr.setRow w.heap.size zsig.toArray) (some w.heap.size) := only_setRow (only_refl _ _) _
            have HI9 := Lib.hid (IG.out.far hO (by omega))
            have HG9 : Hid (w.grownBy (wr.setRow w.heap.size zsig.toArray) (some g)) := Lib.hid (grown_new' Gr.out hO (fun b hb => by injection hb with hb; omega))
            go_wp2_with (first | (refine wpList_store_row rfl 94 (.tmp 2) (.tmp 31) rfl w.heap.size zsig.toArray rfl (congrArg Value.agg zsig_arr.symm) 94 _ Qr.out HSZ.out rfl HOZ.out ?_))
            exact bodyPost_ret (v := .agg zsig.toArray) (results_cell_row Tryd.results58 _ _ w.heap.size 94 zsig.toArray (0, 0) _ rfl (Qr.out.setRow _) Tryd.underlying94 rfl HSZ.out) rfl (takePost_no hkey hmm hl2 he2 HEN.out.1 HEN.out.2 hz HI9.out HG9.out)
    · refine Kt.step_new rfl 94 rfl Tryd.zeroCells94 (.pointer (some ⟨X1.heap.size, 0, none⟩)) (by kernel_rfl) ?_
      have hB : Below X1.heap.size X1 (X1.alloc (.cells Tryd.zeroCells94 94)) := (Below.refl _ _).alloc (Nat.le_refl _) _
      have hZ : Blk (X1.alloc (.cells Tryd.zeroCells94 94)) X1.heap.size 94 zsig := by
        have h := Blk.new X1 94 zsig
        rw [zsig_arr] at h
        exact h
      have hg3q := QX1.out.lt
      generalize X1.alloc (.cells Tryd.zeroCells94 94) = X2 at hB hZ ⊢
      obtain ⟨g3, hg3⟩ : ∃ q, X1.heap.size = q := ⟨_, rfl⟩
      rw [hg3] at hZ hg3q ⊢
      clear hg3
      have QX2 : Hid (Blk X2 w.heap.size 94 zsig) := Lib.hid (QX1.out.below hB QX1.out.lt)
      have IX2 : Hid (InZ X2 g l2 e2 32) := Lib.hid (IX1.out.below hB)
      have GX2 : Hid (w.grownBy X2 (some g)) := Lib.hid (Oct.only_below GX1.out hB)
      have ZX2 : Hid (Blk X2 g3 94 zsig) := Lib.hid (hZ)
      clear QX1 IX1 GX1 hB hZ
      refine hK.out _ _ (trivial) (fun hHeld => ?_)
      clear hK K
      show wpAnyH _ _ _ _ _ _ _ (Act.put _ (some 5) _) _
      simp only [Act.put, List.setIfInBounds_toArray, List.set_cons_zero, List.set_cons_succ]
      refine wpAnyH_ready (rs := [4]) (by kernel_rfl) (by simp) ?_
      refine AllReadyH.cons rfl (fun K hK => ?_) AllReadyH.nil
      obtain ⟨X3, hrun, hown, hg⟩ := run_make_full (P := Tryd.prog) X2 0 92 36 i0 (.agg zsum) 32 Tryd.underlying92 hi hz0 hz1 .i64 .i64 m (by rw [hz2]; omega) (by unfold maxLen; omega) (Nat.zero_le _)
      refine Kt.step_make rfl 92 (.tmp 14) (.tmp 14) rfl (.slice (some ⟨X2.heap.size, 0, none⟩) m m) X3 hrun ?_
      have hB : Below X2.heap.size X2 X3 := (Below.refl _ _).grown hg (Nat.le_refl _) (by simp)
      obtain ⟨hr, _⟩ := own_full hown
      rw [show (Value.agg zsum).cells = zsum from rfl, made_sums, ← sumsC_zero (fun i => tk l2 (32 + i)) m] at hr
      have hgq := QX2.out.lt
      obtain ⟨g15, hg15⟩ : ∃ q, X2.heap.size = q := ⟨_, rfl⟩
      rw [hg15] at hr hgq ⊢
      clear hrun hown hg hg15
      have QX3 : Hid (Blk X3 w.heap.size 94 zsig) := Lib.hid (QX2.out.below hB QX2.out.lt)
      have IX3 : Hid (InZ X3 g l2 e2 32) := Lib.hid (IX2.out.below hB)
      have GX3 : Hid (w.grownBy X3 (some g)) := Lib.hid (Oct.only_below GX2.out hB)
      have ZX3 : Hid (Blk X3 g3 94 zsig) := Lib.hid (ZX2.out.below hB ZX2.out.lt)
      have MX3 : Hid (Blk X3 g15 36 (w8 (sumsC (fun i => tk l2 (32 + i)) m 0))) := Lib.hid (hr)
      clear QX2 IX2 GX2 ZX2 hB hr
      refine hK.out _ _ (trivial) (fun hHeld => ?_)
      clear hK K
      show wpAnyH _ _ _ _ _ _ _ (Act.put _ (some 15) _) _
      simp only [Act.put, List.setIfInBounds_toArray, List.set_cons_zero, List.set_cons_succ]
      refine wpAnyH_take (i := 5) (v := .agg (rsg (takeN l2) key (.slice (some ⟨g15, 0, none⟩) m m)).toArray) rfl (by kernel_rfl) (by kernel_rfl) (by kernel_rfl) (fun _ _ _ h => h) (Or.inl ⟨by rfl, fun w' h => run_build_op rfl (by simp [Act.eval]) (build94 (takeN l2) key (some ⟨g15, 0, none⟩, m, m) (takeN_length l2) w')⟩) hHeld ?_
      show wpAnyH _ _ _ _ _ _ _ (Act.put _ (some 16) _) _
      simp only [Act.put, List.setIfInBounds_toArray, List.set_cons_zero, List.set_cons_succ]
      refine wpAnyH_ready (rs := [7]) (by kernel_rfl) (by simp) ?_
      refine AllReadyH.cons rfl (fun K hK => ?_) AllReadyH.nil
      refine Kt.step_store rfl 94 (.tmp 5) (.tmp 16) rfl g3 (rsg (takeN l2) key (.slice (some ⟨g15, 0, none⟩) m m)) rfl rfl 94 _ ZX3.out (by rw [rsg_length _ _ _ (takeN_length l2)]; exact info94) (by rw [zsig_length, rsg_length _ _ _ (takeN_length l2)]) (all_oneCell_toArray (rsg_one _ _ _ rfl)) ?_
      intro X4 hZ hO
      have QX4 := Lib.hid (QX3.out.grown hO (fun e => by injection e with e; omega))
      have MX4 := Lib.hid (MX3.out.grown hO (fun e => by injection e with e; exact Blk.ne_ ZX3.out MX3.out (by decide) e.symm))
      have IX4 := Lib.hid (IX3.out.far hO (by omega))
      have GX4 : Hid (w.grownBy X4 (some g)) := Lib.hid (grown_new' GX3.out hO (fun b hb => by injection hb with hb; omega))
      have ZX4 := Lib.hid hZ
      clear hZ hO QX3 MX3 IX3 GX3 ZX3
      refine hK.out _ _ (trivial) (fun hHeld => ?_)
      clear hK K
      show wpAnyH _ _ _ _ _ _ _ (Act.put _ none _) _
      simp only [Act.put]
      refine wpAnyH_done (by kernel_rfl) ?_ _
      clear hHeld
      go_upto_region 3 with fail
      go_wp2_with fail
      go_loopw [18, 6] (fun i _ wr => ∃ (k : Nat), k ≤ m ∧ i = .int .i64 k ∧ Hid (Blk wr w.heap.size 94 zsig) ∧ Hid (InZ wr g l2 e2 (32 + k)) ∧ Hid (w.grownBy wr (some g)) ∧ Hid (Blk wr g15 36 (w8 (sumsC (fun i => tk l2 (32 + i)) m k))) ∧ Hid (Blk wr g3 94 (rsg (takeN l2) key (.slice (some ⟨g15, 0, none⟩) m m)))) (fun i _ _ => m - (intOf i).toNat)
      case atStart => exact ⟨0, Nat.zero_le _, rfl, QX4, IX4, GX4, MX4, ZX4⟩
      case round =>
        clear QX4 IX4 GX4 MX4 ZX4
        obtain ⟨k, hk, rfl, Qr, Ir, Gr, Mr, Zr⟩ := hrel
        by_cases hlt : k < m
        · have k1 : (k : Int) < (m : Int) := by omega
          have k2 : (k : Int) ≤ 8 := by omega
          go_upto_region 6 with fail
          have hBz : Below wr.heap.size wr wr.drew := below_drewN (Below.refl _ _) 1
          have QY0 : Hid (Blk wr.drew w.heap.size 94 zsig) := Lib.hid (Qr.out.below hBz Qr.out.lt)
          have IY0 : Hid (InZ wr.drew g l2 e2 (32 + k)) := Lib.hid (Ir.out.below hBz)
          have GY0 : Hid (w.grownBy wr.drew (some g)) := Lib.hid (Oct.only_below Gr.out hBz)
          have MY0 : Hid (Blk wr.drew g15 36 (w8 (sumsC (fun i => tk l2 (32 + i)) m k))) := Lib.hid (Mr.out.below hBz Mr.out.lt)
          have ZY0 : Hid (Blk wr.drew g3 94 (rsg (takeN l2) key (.slice (some ⟨g15, 0, none⟩) m m))) := Lib.hid (Zr.out.below hBz Zr.out.lt)
          clear hBz
          refine wp_region_held_drew (S := fun w' => Blk w' g3 94 (rsg (takeN l2) key (.slice (some ⟨g15, 0, none⟩) m m))) (by kernel_rfl) (ZY0.out) (fun hHeld => ?_)
          generalize wr.drew = Y0 at hHeld QY0 IY0 GY0 MY0 ZY0 ⊢
          refine wpAnyH_take (i := 0) (v := .pointer (some ⟨g3, 1025, none⟩)) rfl (by kernel_rfl) (by kernel_rfl) (by kernel_rfl) (fun _ _ _ h => h) (Or.inl ⟨by rfl, by intro w' h; go_simp⟩) hHeld ?_
          show wpAnyH _ _ _ _ _ _ _ (Act.put _ (some 21) _) _
          simp only [Act.put, List.setIfInBounds_toArray, List.set_cons_zero, List.set_cons_succ]
          refine wpAnyH_take (i := 1) (v := .slice (some ⟨g15, 0, none⟩) m m) rfl (by kernel_rfl) (by kernel_rfl) (by kernel_rfl) (fun _ _ _ h => h) (Or.inl ⟨by rfl, by intro w' h; have q9 := Blk.cell h 1025; rw [rsg_way _ _ _ (takeN_length l2)] at q9; go_simp⟩) hHeld ?_
          show wpAnyH _ _ _ _ _ _ _ (Act.put _ (some 22) _) _
          simp only [Act.put, List.setIfInBounds_toArray, List.set_cons_zero, List.set_cons_succ]
          refine wpAnyH_take (i := 2) (v := .int .i64 (k : Int)) rfl (by kernel_rfl) (by kernel_rfl) (by kernel_rfl) (fun _ _ _ h => h) (Or.inl ⟨by rfl, fun w _ => by rfl⟩) hHeld ?_
          show wpAnyH _ _ _ _ _ _ _ (Act.put _ (some 23) _) _
          simp only [Act.put, List.setIfInBounds_toArray, List.set_cons_zero, List.set_cons_succ]
          refine wpAnyH_take (i := 3) (v := .pointer (some ⟨g, 0, none⟩)) rfl (by kernel_rfl) (by kernel_rfl) (by kernel_rfl) (fun _ _ _ h => h) (Or.inl ⟨by rfl, fun w _ => by rfl⟩) hHeld ?_
          show wpAnyH _ _ _ _ _ _ _ (Act.put _ (some 24) _) _
          simp only [Act.put, List.setIfInBounds_toArray, List.set_cons_zero, List.set_cons_succ]
          refine wpAnyH_ready (rs := [4]) (by kernel_rfl) (by simp) ?_
          refine AllReadyH.cons rfl (fun K hK => ?_) AllReadyH.nil
          refine step_call rfl 72 #[.tmp 24] #[64] rfl #[.pointer (some ⟨g, 0, none⟩)] (by simp [Act.eval]) (by go_simp) (insumz_any g l2 e2 (32 + k) Y0 IY0) ?_
          rintro e X1 ⟨rfl, hi, hg⟩
          have IX1 : Hid (InZ X1 g l2 e2 (32 + (k + 1))) := Lib.hid hi
          have QX1 := Lib.hid (QY0.out.grown hg (fun e => by injection e with e; omega))
          have MX1 := Lib.hid (MY0.out.grown hg (fun e => by injection e with e; omega))
          have ZX1 := Lib.hid (ZY0.out.grown hg (fun e => by injection e with e; omega))
          have GX1 := Lib.hid (GY0.out.trans hg)
          clear hi hg QY0 IY0 GY0 MY0 ZY0
          refine ⟨_, rfl, ?_⟩
          refine hK.out _ _ (ZX1.out) (fun hHeld => ?_)
          clear hK K
          show wpAnyH _ _ _ _ _ _ _ (Act.put _ (some 25) _) _
          simp only [Act.put, List.setIfInBounds_toArray, List.set_cons_zero, List.set_cons_succ]
          refine wpAnyH_take (i := 5) (v := .pointer (some ⟨g15, k * 32, none⟩)) rfl (by kernel_rfl) (by kernel_rfl) (by kernel_rfl) (fun _ _ _ h => h) (Or.inl ⟨by rfl, by intro w' h; go_simp⟩) hHeld ?_
          show wpAnyH _ _ _ _ _ _ _ (Act.put _ (some 26) _) _
          simp only [Act.put, List.setIfInBounds_toArray, List.set_cons_zero, List.set_cons_succ]
          refine wpAnyH_ready (rs := [6]) (by kernel_rfl) (by simp) ?_
          refine AllReadyH.cons rfl (fun K hK => ?_) AllReadyH.nil
          refine step_store_mid rfl 36 (.tmp 26) (.tmp 25) rfl g15 (k * 32) (w8 (tk l2 (32 + k))) rfl rfl (MX1.out.there _ _ (by rw [w8_length, w8_length, tk_length, sumsC_length (fun i => tk l2 (32 + i)) hF m k (by omega)]; omega)) (by rw [w8_length, tk_length]; exact info36) (w8_one _) ?_
          have hO : X1.grownBy (X1.setCells g15 (k * 32) (w8 (tk l2 (32 + k)))) (some g15) := only_cells _ _ _
          have MX2 : Hid (Blk (X1.setCells g15 (k * 32) (w8 (tk l2 (32 + k)))) g15 36 (w8 (sumsC (fun i => tk l2 (32 + i)) m (k + 1)))) := Lib.hid (Blk.put8' (fun i => tk l2 (32 + i)) hF m k hlt MX1.out)
          have QX2 := Lib.hid (QX1.out.grown hO (fun e => by injection e with e; omega))
          have ZX2 := Lib.hid (ZX1.out.grown hO (fun e => by injection e with e; exact Blk.ne_ ZX1.out MX1.out (by decide) e))
          have IX2 := Lib.hid (IX1.out.far hO (by omega))
          have GX2 := Lib.hid (grown_new' GX1.out hO (fun b hb => by injection hb with hb; omega))
          clear hO QX1 IX1 GX1 MX1 ZX1
          generalize X1.setCells g15 (k * 32) (w8 (tk l2 (32 + k))) = X2 at MX2 QX2 ZX2 IX2 GX2 ⊢
          refine hK.out _ _ (ZX2.out) (fun hHeld => ?_)
          clear hK K
          show wpAnyH _ _ _ _ _ _ _ (Act.put _ none _) _
          simp only [Act.put]
          refine wpAnyH_done (by kernel_rfl) ?_ _
          clear hHeld
          go_wp2
          go_roundw
          case rel => exact ⟨k + 1, by omega, by go_num, QX2, IX2, GX2, MX2, ZX2⟩
          case measure => simp [intOf]; omega
        · obtain rfl : k = m := by omega
          have IG := Lib.hid (InZ_G Ir.out)
          obtain ⟨e3, he3⟩ : ∃ q, Oct.aftE l2 e2 (32 * (32 + k)) = q := ⟨_, rfl⟩
          obtain ⟨l3, hl3⟩ : ∃ q, Oct.aftL l2 (32 * (32 + k)) = q := ⟨_, rfl⟩
          rw [he3, hl3] at IG
          have HEN := Lib.hid (And.intro he3 hl3)
          clear he3 hl3
          go_wp2_with fail
          refine (Oct.bad_G g e3 l3 wr IG).mono ?_
          rintro e w1 ⟨rfl, rfl⟩
          by_cases hz : e3 = 0
          · have hzi : (e3 : Int) = 0 := by omega
            have hO : wr.grownBy (wr.setRow w.heap.size (rsg (takeN l2) key (.slice (some ⟨g15, 0, none⟩) k k)).toArray) (some w.heap.size) := only_setRow (only_refl _ _) _
            have HI9 := Lib.hid (IG.out.far hO (by omega))
            have HG9 : Hid (w.grownBy (wr.setRow w.heap.size (rsg (takeN l2) key (.slice (some ⟨g15, 0, none⟩) k k)).toArray) (some g)) := Lib.hid (grown_new' Gr.out hO (fun b hb => by injection hb with hb; omega))
            have HM9 := Lib.hid (Mr.out.grown hO (fun e => by injection e with e; omega))
            have HP9 := Lib.hid (sig_put (takeN l2) key (some ⟨g15, 0, none⟩) k k (takeN_length l2))
            have HZ9 : Hid (zsig.toArray.size = (rsg (takeN l2) key (.slice (some ⟨g15, 0, none⟩) k k)).toArray.size) := Lib.hid (by rw [zsig_arr]; exact HP9.out.2.1)
            have HRZ := Lib.hid Zr.out.all
            go_wp2_with (first | (refine wpList_load_mid rfl 94 (.tmp 5) rfl g3 0 rfl (rsg (takeN l2) key (.slice (some ⟨g15, 0, none⟩) k k)) _ HRZ.out Tryd.underlying94 rfl (by rw [rsg_length _ _ _ (takeN_length l2)]; exact info94) ?_) | (refine wpList_store_row rfl 94 (.tmp 2) (.tmp 32) rfl w.heap.size (rsg (takeN l2) key (.slice (some ⟨g15, 0, none⟩) k k)).toArray rfl rfl 94 _ Qr.out HP9.out.1 HZ9.out HP9.out.2.2 ?_))
            exact bodyPost_ret (v := .agg (rsg (takeN l2) key (.slice (some ⟨g15, 0, none⟩) k k)).toArray) (results_cell_row Tryd.results58 _ _ w.heap.size 94 (rsg (takeN l2) key (.slice (some ⟨g15, 0, none⟩) k k)).toArray (0, 0) _ rfl (Qr.out.setRow _) Tryd.underlying94 rfl HP9.out.1) rfl (takePost_ok hkey hmm hl2 he2 HEN.out.1 HEN.out.2 hz HI9.out HG9.out (by rw [← sumsC_end]; exact HM9.out))
          · have hzi : ¬ ((e3 : Int) = 0) := by omega
            have hO : wr.grownBy (wr.setRow w.heap.size zsig.toArray) (some w.heap.size) := only_setRow (only_refl _ _) _
            have HI9 := Lib.hid (IG.out.far hO (by omega))
            have HG9 : Hid (w.grownBy (wr.setRow w.heap.size zsig.toArray) (some g)) := Lib.hid (grown_new' Gr.out hO (fun b hb => by injection hb with hb; omega))
            go_wp2_with (first | (refine wpList_store_row rfl 94 (.tmp 2) (.tmp 31) rfl w.heap.size zsig.toArray rfl (congrArg Value.agg zsig_arr.symm) 94 _ Qr.out HSZ.out rfl HOZ.out ?_))
            exact bodyPost_ret (v := .agg zsig.toArray) (results_cell_row Tryd.results58 _ _ w.heap.size 94 zsig.toArray (0, 0) _ rfl (Qr.out.setRow _) Tryd.underlying94 rfl HSZ.out) rfl (takePost_no hkey hmm hl2 he2 HEN.out.1 HEN.out.2 hz HI9.out HG9.out)
  · obtain ⟨X1, hrun, hown, hg⟩ := run_make_full (P := Tryd.prog) X0 0 92 36 i0 (.agg zsum) 32 Tryd.underlying92 hi hz0 hz1 .i64 .i64 m (by rw [hz2]; omega) (by unfold maxLen; omega) (Nat.zero_le _)
    refine Kt.step_make rfl 92 (.tmp 14) (.tmp 14) rfl (.slice (some ⟨X0.heap.size, 0, none⟩) m m) X1 hrun ?_
    have hB : Below X0.heap.size X0 X1 := (Below.refl _ _).grown hg (Nat.le_refl _) (by simp)
    obtain ⟨hr, _⟩ := own_full hown
    rw [show (Value.agg zsum).cells = zsum from rfl, made_sums, ← sumsC_zero (fun i => tk l2 (32 + i)) m] at hr
    have hgq := QX0.out.lt
    obtain ⟨g15, hg15⟩ : ∃ q, X0.heap.size = q := ⟨_, rfl⟩
    rw [hg15] at hr hgq ⊢
    clear hrun hown hg hg15
    have QX1 : Hid (Blk X1 w.heap.size 94 zsig) := Lib.hid (QX0.out.below hB QX0.out.lt)
    have IX1 : Hid (InZ X1 g l2 e2 0) := Lib.hid (IX0.out.below hB)
    have GX1 : Hid (w.grownBy X1 (some g)) := Lib.hid (Oct.only_below GX0.out hB)
    have MX1 : Hid (Blk X1 g15 36 (w8 (sumsC (fun i => tk l2 (32 + i)) m 0))) := Lib.hid (hr)
    clear QX0 IX0 GX0 hB hr
    refine hK.out _ _ (trivial) (fun hHeld => ?_)
    clear hK K
    show wpAnyH _ _ _ _ _ _ _ (Act.put _ (some 15) _) _
    simp only [Act.put, List.setIfInBounds_toArray, List.set_cons_zero, List.set_cons_succ]
    refine wpAnyH_ready (rs := [1, 6]) (by kernel_rfl) (by simp) ?_
    refine AllReadyH.cons rfl (fun K hK => ?_) (AllReadyH.cons rfl (fun K hK => ?_) AllReadyH.nil)
    · refine step_call rfl 31 #[.tmp 11] #[64] rfl #[.pointer (some ⟨g, 0, none⟩)] (by simp [Act.eval]) (by go_simp) (take_lampz g l2 e2 X1 IX1) ?_
      rintro e X2 ⟨rfl, hi, hg⟩
      have IX2 := Lib.hid hi
      have QX2 := Lib.hid (QX1.out.grown hg (fun e => by injection e with e; omega))
      have GX2 := Lib.hid (GX1.out.trans hg)
      have MX2 := Lib.hid (MX1.out.grown hg (fun e => by injection e with e; omega))
      clear hi hg QX1 IX1 GX1 MX1
      refine ⟨_, rfl, ?_⟩
      refine hK.out _ _ (trivial) (fun hHeld => ?_)
      clear hK K
      show wpAnyH _ _ _ _ _ _ _ (Act.put _ (some 12) _) _
      simp only [Act.put, List.setIfInBounds_toArray, List.set_cons_zero, List.set_cons_succ]
      refine wpAnyH_take (i := 5) (v := .agg (rsg (takeN l2) key (.slice (some ⟨g15, 0, none⟩) m m)).toArray) rfl (by kernel_rfl) (by kernel_rfl) (by kernel_rfl) (fun _ _ _ h => h) (Or.inl ⟨by rfl, fun w' h => run_build_op rfl (by simp [Act.eval]) (build94 (takeN l2) key (some ⟨g15, 0, none⟩, m, m) (takeN_length l2) w')⟩) hHeld ?_
      show wpAnyH _ _ _ _ _ _ _ (Act.put _ (some 16) _) _
      simp only [Act.put, List.setIfInBounds_toArray, List.set_cons_zero, List.set_cons_succ]
      refine wpAnyH_ready (rs := [6]) (by kernel_rfl) (by simp) ?_
      refine AllReadyH.cons rfl (fun K hK => ?_) AllReadyH.nil
      refine Kt.step_new rfl 94 rfl Tryd.zeroCells94 (.pointer (some ⟨X2.heap.size, 0, none⟩)) (by kernel_rfl) ?_
      have hB : Below X2.heap.size X2 (X2.alloc (.cells Tryd.zeroCells94 94)) := (Below.refl _ _).alloc (Nat.le_refl _) _
      have hZ : Blk (X2.alloc (.cells Tryd.zeroCells94 94)) X2.heap.size 94 zsig := by
        have h := Blk.new X2 94 zsig
        rw [zsig_arr] at h
        exact h
      have hg3q := QX2.out.lt
      generalize X2.alloc (.cells Tryd.zeroCells94 94) = X3 at hB hZ ⊢
      obtain ⟨g3, hg3⟩ : ∃ q, X2.heap.size = q := ⟨_, rfl⟩
      rw [hg3] at hZ hg3q ⊢
      clear hg3
      have QX3 : Hid (Blk X3 w.heap.size 94 zsig) := Lib.hid (QX2.out.below hB QX2.out.lt)
      have IX3 : Hid (InZ X3 g l2 e2 32) := Lib.hid (IX2.out.below hB)
      have GX3 : Hid (w.grownBy X3 (some g)) := Lib.hid (Oct.only_below GX2.out hB)
      have MX3 : Hid (Blk X3 g15 36 (w8 (sumsC (fun i => tk l2 (32 + i)) m 0))) := Lib.hid (MX2.out.below hB MX2.out.lt)
      have ZX3 : Hid (Blk X3 g3 94 zsig) := Lib.hid (hZ)
      clear QX2 IX2 GX2 MX2 hB hZ
      refine hK.out _ _ (trivial) (fun hHeld => ?_)
      clear hK K
      show wpAnyH _ _ _ _ _ _ _ (Act.put _ (some 5) _) _
      simp only [Act.put, List.setIfInBounds_toArray, List.set_cons_zero, List.set_cons_succ]
      refine wpAnyH_ready (rs := [7]) (by kernel_rfl) (by simp) ?_
      refine AllReadyH.cons rfl (fun K hK => ?_) AllReadyH.nil
      refine Kt.step_store rfl 94 (.tmp 5) (.tmp 16) rfl g3 (rsg (takeN l2) key (.slice (some ⟨g15, 0, none⟩) m m)) rfl rfl 94 _ ZX3.out (by rw [rsg_length _ _ _ (takeN_length l2)]; exact info94) (by rw [zsig_length, rsg_length _ _ _ (takeN_length l2)]) (all_oneCell_toArray (rsg_one _ _ _ rfl)) ?_
      intro X4 hZ hO
      have QX4 := Lib.hid (QX3.out.grown hO (fun e => by injection e with e; omega))
      have MX4 := Lib.hid (MX3.out.grown hO (fun e => by injection e with e; exact Blk.ne_ ZX3.out MX3.out (by decide) e.symm))
      have IX4 := Lib.hid (IX3.out.far hO (by omega))
      have GX4 : Hid (w.grownBy X4 (some g)) := Lib.hid (grown_new' GX3.out hO (fun b hb => by injection hb with hb; omega))
      have ZX4 := Lib.hid hZ
      clear hZ hO QX3 MX3 IX3 GX3 ZX3
      refine hK.out _ _ (trivial) (fun hHeld => ?_)
      clear hK K
      show wpAnyH _ _ _ _ _ _ _ (Act.put _ none _) _
      simp only [Act.put]
      refine wpAnyH_done (by kernel_rfl) ?_ _
      clear hHeld
      go_upto_region 3 with fail
      go_wp2_with fail
      go_loopw [18, 6] (fun i _ wr => ∃ (k : Nat), k ≤ m ∧ i = .int .i64 k ∧ Hid (Blk wr w.heap.size 94 zsig) ∧ Hid (InZ wr g l2 e2 (32 + k)) ∧ Hid (w.grownBy wr (some g)) ∧ Hid (Blk wr g15 36 (w8 (sumsC (fun i => tk l2 (32 + i)) m k))) ∧ Hid (Blk wr g3 94 (rsg (takeN l2) key (.slice (some ⟨g15, 0, none⟩) m m)))) (fun i _ _ => m - (intOf i).toNat)
      case atStart => exact ⟨0, Nat.zero_le _, rfl, QX4, IX4, GX4, MX4, ZX4⟩
      case round =>
        clear QX4 IX4 GX4 MX4 ZX4
        obtain ⟨k, hk, rfl, Qr, Ir, Gr, Mr, Zr⟩ := hrel
        by_cases hlt : k < m
        · have k1 : (k : Int) < (m : Int) := by omega
          have k2 : (k : Int) ≤ 8 := by omega
          go_upto_region 6 with fail
          have hBz : Below wr.heap.size wr wr.drew := below_drewN (Below.refl _ _) 1
          have QY0 : Hid (Blk wr.drew w.heap.size 94 zsig) := Lib.hid (Qr.out.below hBz Qr.out.lt)
          have IY0 : Hid (InZ wr.drew g l2 e2 (32 + k)) := Lib.hid (Ir.out.below hBz)
          have GY0 : Hid (w.grownBy wr.drew (some g)) := Lib.hid (Oct.only_below Gr.out hBz)
          have MY0 : Hid (Blk wr.drew g15 36 (w8 (sumsC (fun i => tk l2 (32 + i)) m k))) := Lib.hid (Mr.out.below hBz Mr.out.lt)
          have ZY0 : Hid (Blk wr.drew g3 94 (rsg (takeN l2) key (.slice (some ⟨g15, 0, none⟩) m m))) := Lib.hid (Zr.out.below hBz Zr.out.lt)
          clear hBz
          refine wp_region_held_drew (S := fun w' => Blk w' g3 94 (rsg (takeN l2) key (.slice (some ⟨g15, 0, none⟩) m m))) (by kernel_rfl) (ZY0.out) (fun hHeld => ?_)
          generalize wr.drew = Y0 at hHeld QY0 IY0 GY0 MY0 ZY0 ⊢
          refine wpAnyH_take (i := 0) (v := .pointer (some ⟨g3, 1025, none⟩)) rfl (by kernel_rfl) (by kernel_rfl) (by kernel_rfl) (fun _ _ _ h => h) (Or.inl ⟨by rfl, by intro w' h; go_simp⟩) hHeld ?_
          show wpAnyH _ _ _ _ _ _ _ (Act.put _ (some 21) _) _
          simp only [Act.put, List.setIfInBounds_toArray, List.set_cons_zero, List.set_cons_succ]
          refine wpAnyH_take (i := 1) (v := .slice (some ⟨g15, 0, none⟩) m m) rfl (by kernel_rfl) (by kernel_rfl) (by kernel_rfl) (fun _ _ _ h => h) (Or.inl ⟨by rfl, by intro w' h; have q9 := Blk.cell h 1025; rw [rsg_way _ _ _ (takeN_length l2)] at q9; go_simp⟩) hHeld ?_
          show wpAnyH _ _ _ _ _ _ _ (Act.put _ (some 22) _) _
          simp only [Act.put, List.setIfInBounds_toArray, List.set_cons_zero, List.set_cons_succ]
          refine wpAnyH_take (i := 2) (v := .int .i64 (k : Int)) rfl (by kernel_rfl) (by kernel_rfl) (by kernel_rfl) (fun _ _ _ h => h) (Or.inl ⟨by rfl, fun w _ => by rfl⟩) hHeld ?_
          show wpAnyH _ _ _ _ _ _ _ (Act.put _ (some 23) _) _
          simp only [Act.put, List.setIfInBounds_toArray, List.set_cons_zero, List.set_cons_succ]
          refine wpAnyH_take (i := 3) (v := .pointer (some ⟨g, 0, none⟩)) rfl (by kernel_rfl) (by kernel_rfl) (by kernel_rfl) (fun _ _ _ h => h) (Or.inl ⟨by rfl, fun w _ => by rfl⟩) hHeld ?_
          show wpAnyH _ _ _ _ _ _ _ (Act.put _ (some 24) _) _
          simp only [Act.put, List.setIfInBounds_toArray, List.set_cons_zero, List.set_cons_succ]
          refine wpAnyH_ready (rs := [4]) (by kernel_rfl) (by simp) ?_
          refine AllReadyH.cons rfl (fun K hK => ?_) AllReadyH.nil
          refine step_call rfl 72 #[.tmp 24] #[64] rfl #[.pointer (some ⟨g, 0, none⟩)] (by simp [Act.eval]) (by go_simp) (insumz_any g l2 e2 (32 + k) Y0 IY0) ?_
          rintro e X1 ⟨rfl, hi, hg⟩
          have IX1 : Hid (InZ X1 g l2 e2 (32 + (k + 1))) := Lib.hid hi
          have QX1 := Lib.hid (QY0.out.grown hg (fun e => by injection e with e; omega))
          have MX1 := Lib.hid (MY0.out.grown hg (fun e => by injection e with e; omega))
          have ZX1 := Lib.hid (ZY0.out.grown hg (fun e => by injection e with e; omega))
          have GX1 := Lib.hid (GY0.out.trans hg)
          clear hi hg QY0 IY0 GY0 MY0 ZY0
          refine ⟨_, rfl, ?_⟩
          refine hK.out _ _ (ZX1.out) (fun hHeld => ?_)
          clear hK K
          show wpAnyH _ _ _ _ _ _ _ (Act.put _ (some 25) _) _
          simp only [Act.put, List.setIfInBounds_toArray, List.set_cons_zero, List.set_cons_succ]
          refine wpAnyH_take (i := 5) (v := .pointer (some ⟨g15, k * 32, none⟩)) rfl (by kernel_rfl) (by kernel_rfl) (by kernel_rfl) (fun _ _ _ h => h) (Or.inl ⟨by rfl, by intro w' h; go_simp⟩) hHeld ?_
          show wpAnyH _ _ _ _ _ _ _ (Act.put _ (some 26) _) _
          simp only [Act.put, List.setIfInBounds_toArray, List.set_cons_zero, List.set_cons_succ]
          refine wpAnyH_ready (rs := [6]) (by kernel_rfl) (by simp) ?_
          refine AllReadyH.cons rfl (fun K hK => ?_) AllReadyH.nil
          refine step_store_mid rfl 36 (.tmp 26) (.tmp 25) rfl g15 (k * 32) (w8 (tk l2 (32 + k))) rfl rfl (MX1.out.there _ _ (by rw [w8_length, w8_length, tk_length, sumsC_length (fun i => tk l2 (32 + i)) hF m k (by omega)]; omega)) (by rw [w8_length, tk_length]; exact info36) (w8_one _) ?_
          have hO : X1.grownBy (X1.setCells g15 (k * 32) (w8 (tk l2 (32 + k)))) (some g15) := only_cells _ _ _
          have MX2 : Hid (Blk (X1.setCells g15 (k * 32) (w8 (tk l2 (32 + k)))) g15 36 (w8 (sumsC (fun i => tk l2 (32 + i)) m (k + 1)))) := Lib.hid (Blk.put8' (fun i => tk l2 (32 + i)) hF m k hlt MX1.out)
          have QX2 := Lib.hid (QX1.out.grown hO (fun e => by injection e with e; omega))
          have ZX2 := Lib.hid (ZX1.out.grown hO (fun e => by injection e with e; exact Blk.ne_ ZX1.out MX1.out (by decide) e))
          have IX2 := Lib.hid (IX1.out.far hO (by omega))
          have GX2 := Lib.hid (grown_new' GX1.out hO (fun b hb => by injection hb with hb; omega))
          clear hO QX1 IX1 GX1 MX1 ZX1
          generalize X1.setCells g15 (k * 32) (w8 (tk l2 (32 + k))) = X2 at MX2 QX2 ZX2 IX2 GX2 ⊢
          refine hK.out _ _ (ZX2.out) (fun hHeld => ?_)
          clear hK K
          show wpAnyH _ _ _ _ _ _ _ (Act.put _ none _) _
          simp only [Act.put]
          refine wpAnyH_done (by kernel_rfl) ?_ _
          clear hHeld
          go_wp2
          go_roundw
          case rel => exact ⟨k + 1, by omega, by go_num, QX2, IX2, GX2, MX2, ZX2⟩
          case measure => simp [intOf]; omega
        · obtain rfl : k = m := by omega
          have IG := Lib.hid (InZ_G Ir.out)
          obtain ⟨e3, he3⟩ : ∃ q, Oct.aftE l2 e2 (32 * (32 + k)) = q := ⟨_, rfl⟩
          obtain ⟨l3, hl3⟩ : ∃ q, Oct.aftL l2 (32 * (32 + k)) = q := ⟨_, rfl⟩
          rw [he3, hl3] at IG
          have HEN := Lib.hid (And.intro he3 hl3)
          clear he3 hl3
          go_wp2_with fail
          refine (Oct.bad_G g e3 l3 wr IG).mono ?_
          rintro e w1 ⟨rfl, rfl⟩
          by_cases hz : e3 = 0
          · have hzi : (e3 : Int) = 0 := by omega
            have hO : wr.grownBy (wr.setRow w.heap.size (rsg (takeN l2) key (.slice (some ⟨g15, 0, none⟩) k k)).toArray) (some w.heap.size) := only_setRow (only_refl _ _) _
            have HI9 := Lib.hid (IG.out.far hO (by omega))
            have HG9 : Hid (w.grownBy (wr.setRow w.heap.size (rsg (takeN l2) key (.slice (some ⟨g15, 0, none⟩) k k)).toArray) (some g)) := Lib.hid (grown_new' Gr.out hO (fun b hb => by injection hb with hb; omega))
            have HM9 := Lib.hid (Mr.out.grown hO (fun e => by injection e with e; omega))
            have HP9 := Lib.hid (sig_put (takeN l2) key (some ⟨g15, 0, none⟩) k k (takeN_length l2))
            have HZ9 : Hid (zsig.toArray.size = (rsg (takeN l2) key (.slice (some ⟨g15, 0, none⟩) k k)).toArray.size) := Lib.hid (by rw [zsig_arr]; exact HP9.out.2.1)
            have HRZ := Lib.hid Zr.out.all
            go_wp2_with (first | (refine wpList_load_mid rfl 94 (.tmp 5) rfl g3 0 rfl (rsg (takeN l2) key (.slice (some ⟨g15, 0, none⟩) k k)) _ HRZ.out Tryd.underlying94 rfl (by rw [rsg_length _ _ _ (takeN_length l2)]; exact info94) ?_) | (refine wpList_store_row rfl 94 (.tmp 2) (.tmp 32) rfl w.heap.size (rsg (takeN l2) key (.slice (some ⟨g15, 0, none⟩) k k)).toArray rfl rfl 94 _ Qr.out HP9.out.1 HZ9.out HP9.out.2.2 ?_))
            exact bodyPost_ret (v := .agg (rsg (takeN l2) key (.slice (some ⟨g15, 0, none⟩) k k)).toArray) (results_cell_row Tryd.results58 _ _ w.heap.size 94 (rsg (takeN l2) key (.slice (some ⟨g15, 0, none⟩) k k)).toArray (0, 0) _ rfl (Qr.out.setRow _) Tryd.underlying94 rfl HP9.out.1) rfl (takePost_ok hkey hmm hl2 he2 HEN.out.1 HEN.out.2 hz HI9.out HG9.out (by rw [← sumsC_end]; exact HM9.out))
          · have hzi : ¬ ((e3 : Int) = 0) := by omega
            have hO : wr.grownBy (wr.setRow w.heap.size zsig.toArray) (some w.heap.size) := only_setRow (only_refl _ _) _
            have HI9 := Lib.hid (IG.out.far hO (by omega))
            have HG9 : Hid (w.grownBy (wr.setRow w.heap.size zsig.toArray) (some g)) := Lib.hid (grown_new' Gr.out hO (fun b hb => by injection hb with hb; omega))
            go_wp2_with (first | (refine wpList_store_row rfl 94 (.tmp 2) (.tmp 31) rfl w.heap.size zsig.toArray rfl (congrArg Value.agg zsig_arr.symm) 94 _ Qr.out HSZ.out rfl HOZ.out ?_))
            exact bodyPost_ret (v := .agg zsig.toArray) (results_cell_row Tryd.results58 _ _ w.heap.size 94 zsig.toArray (0, 0) _ rfl (Qr.out.setRow _) Tryd.underlying94 rfl HSZ.out) rfl (takePost_no hkey hmm hl2 he2 HEN.out.1 HEN.out.2 hz HI9.out HG9.out)
    · refine Kt.step_new rfl 94 rfl Tryd.zeroCells94 (.pointer (some ⟨X1.heap.size, 0, none⟩)) (by kernel_rfl) ?_
      have hB : Below X1.heap.size X1 (X1.alloc (.cells Tryd.zeroCells94 94)) := (Below.refl _ _).alloc (Nat.le_refl _) _
      have hZ : Blk (X1.alloc (.cells Tryd.zeroCells94 94)) X1.heap.size 94 zsig := by
        have h := Blk.new X1 94 zsig
        rw [zsig_arr] at h
        exact h
      have hg3q := QX1.out.lt
      generalize X1.alloc (.cells Tryd.zeroCells94 94) = X2 at hB hZ ⊢
      obtain ⟨g3, hg3⟩ : ∃ q, X1.heap.size = q := ⟨_, rfl⟩
      rw [hg3] at hZ hg3q ⊢
      clear hg3
      have QX2 : Hid (Blk X2 w.heap.size 94 zsig) := Lib.hid (QX1.out.below hB QX1.out.lt)
      have IX2 : Hid (InZ X2 g l2 e2 0) := Lib.hid (IX1.out.below hB)
      have GX2 : Hid (w.grownBy X2 (some g)) := Lib.hid (Oct.only_below GX1.out hB)
      have MX2 : Hid (Blk X2 g15 36 (w8 (sumsC (fun i => tk l2 (32 + i)) m 0))) := Lib.hid (MX1.out.below hB MX1.out.lt)
      have ZX2 : Hid (Blk X2 g3 94 zsig) := Lib.hid (hZ)
      clear QX1 IX1 GX1 MX1 hB hZ
      refine hK.out _ _ (trivial) (fun hHeld => ?_)
      clear hK K
      show wpAnyH _ _ _ _ _ _ _ (Act.put _ (some 5) _) _
      simp only [Act.put, List.setIfInBounds_toArray, List.set_cons_zero, List.set_cons_succ]
      refine wpAnyH_ready (rs := [1]) (by kernel_rfl) (by simp) ?_
      refine AllReadyH.cons rfl (fun K hK => ?_) AllReadyH.nil
      refine step_call rfl 31 #[.tmp 11] #[64] rfl #[.pointer (some ⟨g, 0, none⟩)] (by simp [Act.eval]) (by go_simp) (take_lampz g l2 e2 X2 IX2) ?_
      rintro e X3 ⟨rfl, hi, hg⟩
      have IX3 := Lib.hid hi
      have QX3 := Lib.hid (QX2.out.grown hg (fun e => by injection e with e; omega))
      have GX3 := Lib.hid (GX2.out.trans hg)
      have MX3 := Lib.hid (MX2.out.grown hg (fun e => by injection e with e; omega))
      have ZX3 := Lib.hid (ZX2.out.grown hg (fun e => by injection e with e; omega))
      clear hi hg QX2 IX2 GX2 MX2 ZX2
      refine ⟨_, rfl, ?_⟩
      refine hK.out _ _ (trivial) (fun hHeld => ?_)
      clear hK K
      show wpAnyH _ _ _ _ _ _ _ (Act.put _ (some 12) _) _
      simp only [Act.put, List.setIfInBounds_toArray, List.set_cons_zero, List.set_cons_succ]
      refine wpAnyH_take (i := 5) (v := .agg (rsg (takeN l2) key (.slice (some ⟨g15, 0, none⟩) m m)).toArray) rfl (by kernel_rfl) (by kernel_rfl) (by kernel_rfl) (fun _ _ _ h => h) (Or.inl ⟨by rfl, fun w' h => run_build_op rfl (by simp [Act.eval]) (build94 (takeN l2) key (some ⟨g15, 0, none⟩, m, m) (takeN_length l2) w')⟩) hHeld ?_
      show wpAnyH _ _ _ _ _ _ _ (Act.put _ (some 16) _) _
      simp only [Act.put, List.setIfInBounds_toArray, List.set_cons_zero, List.set_cons_succ]
      refine wpAnyH_ready (rs := [7]) (by kernel_rfl) (by simp) ?_
      refine AllReadyH.cons rfl (fun K hK => ?_) AllReadyH.nil
      refine Kt.step_store rfl 94 (.tmp 5) (.tmp 16) rfl g3 (rsg (takeN l2) key (.slice (some ⟨g15, 0, none⟩) m m)) rfl rfl 94 _ ZX3.out (by rw [rsg_length _ _ _ (takeN_length l2)]; exact info94) (by rw [zsig_length, rsg_length _ _ _ (takeN_length l2)]) (all_oneCell_toArray (rsg_one _ _ _ rfl)) ?_
      intro X4 hZ hO
      have QX4 := Lib.hid (QX3.out.grown hO (fun e => by injection e with e; omega))
      have MX4 := Lib.hid (MX3.out.grown hO (fun e => by injection e with e; exact Blk.ne_ ZX3.out MX3.out (by decide) e.symm))
      have IX4 := Lib.hid (IX3.out.far hO (by omega))
      have GX4 : Hid (w.grownBy X4 (some g)) := Lib.hid (grown_new' GX3.out hO (fun b hb => by injection hb with hb; omega))
      have ZX4 := Lib.hid hZ
      clear hZ hO QX3 MX3 IX3 GX3 ZX3
      refine hK.out _ _ (trivial) (fun hHeld => ?_)
      clear hK K
      show wpAnyH _ _ _ _ _ _ _ (Act.put _ none _) _
      simp only [Act.put]
      refine wpAnyH_done (by kernel_rfl) ?_ _
      clear hHeld
      go_upto_region 3 with fail
      go_wp2_with fail
      go_loopw [18, 6] (fun i _ wr => ∃ (k : Nat), k ≤ m ∧ i = .int .i64 k ∧ Hid (Blk wr w.heap.size 94 zsig) ∧ Hid (InZ wr g l2 e2 (32 + k)) ∧ Hid (w.grownBy wr (some g)) ∧ Hid (Blk wr g15 36 (w8 (sumsC (fun i => tk l2 (32 + i)) m k))) ∧ Hid (Blk wr g3 94 (rsg (takeN l2) key (.slice (some ⟨g15, 0, none⟩) m m)))) (fun i _ _ => m - (intOf i).toNat)
      case atStart => exact ⟨0, Nat.zero_le _, rfl, QX4, IX4, GX4, MX4, ZX4⟩
      case round =>
        clear QX4 IX4 GX4 MX4 ZX4
        obtain ⟨k, hk, rfl, Qr, Ir, Gr, Mr, Zr⟩ := hrel
        by_cases hlt : k < m
        · have k1 : (k : Int) < (m : Int) := by omega
          have k2 : (k : Int) ≤ 8 := by omega
          go_upto_region 6 with fail
          have hBz : Below wr.heap.size wr wr.drew := below_drewN (Below.refl _ _) 1
          have QY0 : Hid (Blk wr.drew w.heap.size 94 zsig) := Lib.hid (Qr.out.below hBz Qr.out.lt)
          have IY0 : Hid (InZ wr.drew g l2 e2 (32 + k)) := Lib.hid (Ir.out.below hBz)
          have GY0 : Hid (w.grownBy wr.drew (some g)) := Lib.hid (Oct.only_below Gr.out hBz)
          have MY0 : Hid (Blk wr.drew g15 36 (w8 (sumsC (fun i => tk l2 (32 + i)) m k))) := Lib.hid (Mr.out.below hBz Mr.out.lt)
          have ZY0 : Hid (Blk wr.drew g3 94 (rsg (takeN l2) key (.slice (some ⟨g15, 0, none⟩) m m))) := Lib.hid (Zr.out.below hBz Zr.out.lt)
          clear hBz
          refine wp_region_held_drew (S := fun w' => Blk w' g3 94 (rsg (takeN l2) key (.slice (some ⟨g15, 0, none⟩) m m))) (by kernel_rfl) (ZY0.out) (fun hHeld => ?_)
          generalize wr.drew = Y0 at hHeld QY0 IY0 GY0 MY0 ZY0 ⊢
          refine wpAnyH_take (i := 0) (v := .pointer (some ⟨g3, 1025, none⟩)) rfl (by kernel_rfl) (by kernel_rfl) (by kernel_rfl) (fun _ _ _ h => h) (Or.inl ⟨by rfl, by intro w' h; go_simp⟩) hHeld ?_
          show wpAnyH _ _ _ _ _ _ _ (Act.put _ (some 21) _) _
          simp only [Act.put, List.setIfInBounds_toArray, List.set_cons_zero, List.set_cons_succ]
          refine wpAnyH_take (i := 1) (v := .slice (some ⟨g15, 0, none⟩) m m) rfl (by kernel_rfl) (by kernel_rfl) (by kernel_rfl) (fun _ _ _ h => h) (Or.inl ⟨by rfl, by intro w' h; have q9 := Blk.cell h 1025; rw [rsg_way _ _ _ (takeN_length l2)] at q9; go_simp⟩) hHeld ?_
          show wpAnyH _ _ _ _ _ _ _ (Act.put _ (some 22) _) _
          simp only [Act.put, List.setIfInBounds_toArray, List.set_cons_zero, List.set_cons_succ]
          refine wpAnyH_take (i := 2) (v := .int .i64 (k : Int)) rfl (by kernel_rfl) (by kernel_rfl) (by kernel_rfl) (fun _ _ _ h => h) (Or.inl ⟨by rfl, fun w _ => by rfl⟩) hHeld ?_
          show wpAnyH _ _ _ _ _ _ _ (Act.put _ (some 23) _) _
          simp only [Act.put, List.setIfInBounds_toArray, List.set_cons_zero, List.set_cons_succ]
          refine wpAnyH_take (i := 3) (v := .pointer (some ⟨g, 0, none⟩)) rfl (by kernel_rfl) (by kernel_rfl) (by kernel_rfl) (fun _ _ _ h => h) (Or.inl ⟨by rfl, fun w _ => by rfl⟩) hHeld ?_
          show wpAnyH _ _ _ _ _ _ _ (Act.put _ (some 24) _) _
          simp only [Act.put, List.setIfInBounds_toArray, List.set_cons_zero, List.set_cons_succ]
          refine wpAnyH_ready (rs := [4]) (by kernel_rfl) (by simp) ?_
          refine AllReadyH.cons rfl (fun K hK => ?_) AllReadyH.nil
          refine step_call rfl 72 #[.tmp 24] #[64] rfl #[.pointer (some ⟨g, 0, none⟩)] (by simp [Act.eval]) (by go_simp) (insumz_any g l2 e2 (32 + k) Y0 IY0) ?_
          rintro e X1 ⟨rfl, hi, hg⟩
          have IX1 : Hid (InZ X1 g l2 e2 (32 + (k + 1))) := Lib.hid hi
          have QX1 := Lib.hid (QY0.out.grown hg (fun e => by injection e with e; omega))
          have MX1 := Lib.hid (MY0.out.grown hg (fun e => by injection e with e; omega))
          have ZX1 := Lib.hid (ZY0.out.grown hg (fun e => by injection e with e; omega))
          have GX1 := Lib.hid (GY0.out.trans hg)
          clear hi hg QY0 IY0 GY0 MY0 ZY0
          refine ⟨_, rfl, ?_⟩
          refine hK.out _ _ (ZX1.out) (fun hHeld => ?_)
          clear hK K
          show wpAnyH _ _ _ _ _ _ _ (Act.put _ (some 25) _) _
          simp only [Act.put, List.setIfInBounds_toArray, List.set_cons_zero, List.set_cons_succ]
          refine wpAnyH_take (i := 5) (v := .pointer (some ⟨g15, k * 32, none⟩)) rfl (by kernel_rfl) (by kernel_rfl) (by kernel_rfl) (fun _ _ _ h => h) (Or.inl ⟨by rfl, by intro w' h; go_simp⟩) hHeld ?_
          show wpAnyH _ _ _ _ _ _ _ (Act.put _ (some 26) _) _
          simp only [Act.put, List.setIfInBounds_toArray, List.set_cons_zero, List.set_cons_succ]
          refine wpAnyH_ready (rs := [6]) (by kernel_rfl) (by simp) ?_
          refine AllReadyH.cons rfl (fun K hK => ?_) AllReadyH.nil
          refine step_store_mid rfl 36 (.tmp 26) (.tmp 25) rfl g15 (k * 32) (w8 (tk l2 (32 + k))) rfl rfl (MX1.out.there _ _ (by rw [w8_length, w8_length, tk_length, sumsC_length (fun i => tk l2 (32 + i)) hF m k (by omega)]; omega)) (by rw [w8_length, tk_length]; exact info36) (w8_one _) ?_
          have hO : X1.grownBy (X1.setCells g15 (k * 32) (w8 (tk l2 (32 + k)))) (some g15) := only_cells _ _ _
          have MX2 : Hid (Blk (X1.setCells g15 (k * 32) (w8 (tk l2 (32 + k)))) g15 36 (w8 (sumsC (fun i => tk l2 (32 + i)) m (k + 1)))) := Lib.hid (Blk.put8' (fun i => tk l2 (32 + i)) hF m k hlt MX1.out)
          have QX2 := Lib.hid (QX1.out.grown hO (fun e => by injection e with e; omega))
          have ZX2 := Lib.hid (ZX1.out.grown hO (fun e => by injection e with e; exact Blk.ne_ ZX1.out MX1.out (by decide) e))
          have IX2 := Lib.hid (IX1.out.far hO (by omega))
          have GX2 := Lib.hid (grown_new' GX1.out hO (fun b hb => by injection hb with hb; omega))
          clear hO QX1 IX1 GX1 MX1 ZX1
          generalize X1.setCells g15 (k * 32) (w8 (tk l2 (32 + k))) = X2 at MX2 QX2 ZX2 IX2 GX2 ⊢
          refine hK.out _ _ (ZX2.out) (fun hHeld => ?_)
          clear hK K
          show wpAnyH _ _ _ _ _ _ _ (Act.put _ none _) _
          simp only [Act.put]
          refine wpAnyH_done (by kernel_rfl) ?_ _
          clear hHeld
          go_wp2
          go_roundw
          case rel => exact ⟨k + 1, by omega, by go_num, QX2, IX2, GX2, MX2, ZX2⟩
          case measure => simp [intOf]; omega
        · obtain rfl : k = m := by omega
          have IG := Lib.hid (InZ_G Ir.out)
          obtain ⟨e3, he3⟩ : ∃ q, Oct.aftE l2 e2 (32 * (32 + k)) = q := ⟨_, rfl⟩
          obtain ⟨l3, hl3⟩ : ∃ q, Oct.aftL l2 (32 * (32 + k)) = q := ⟨_, rfl⟩
          rw [he3, hl3] at IG
          have HEN := Lib.hid (And.intro he3 hl3)
          clear he3 hl3
          go_wp2_with fail
          refine (Oct.bad_G g e3 l3 wr IG).mono ?_
          rintro e w1 ⟨rfl, rfl⟩
          by_cases hz : e3 = 0
          · have hzi : (e3 : Int) = 0 := by omega
            have hO : wr.grownBy (wr.setRow w.heap.size (rsg (takeN l2) key (.slice (some ⟨g15, 0, none⟩) k k)).toArray) (some w.heap.size) := only_setRow (only_refl _ _) _
            have HI9 := Lib.hid (IG.out.far hO (by omega))
            have HG9 : Hid (w.grownBy (wr.setRow w.heap.size (rsg (takeN l2) key (.slice (some ⟨g15, 0, none⟩) k k)).toArray) (some g)) := Lib.hid (grown_new' Gr.out hO (fun b hb => by injection hb with hb; omega))
            have HM9 := Lib.hid (Mr.out.grown hO (fun e => by injection e with e; omega))
            have HP9 := Lib.hid (sig_put (takeN l2) key (some ⟨g15, 0, none⟩) k k (takeN_length l2))
            have HZ9 : Hid (zsig.toArray.size = (rsg (takeN l2) key (.slice (some ⟨g15, 0, none⟩) k k)).toArray.size) := Lib.hid (by rw [zsig_arr]; exact HP9.out.2.1)
            have HRZ := Lib.hid Zr.out.all
            go_wp2_with (first | (refine wpList_load_mid rfl 94 (.tmp 5) rfl g3 0 rfl (rsg (takeN l2) key (.slice (some ⟨g15, 0, none⟩) k k)) _ HRZ.out Tryd.underlying94 rfl (by rw [rsg_length _ _ _ (takeN_length l2)]; exact info94) ?_) | (refine wpList_store_row rfl 94 (.tmp 2) (.tmp 32) rfl w.heap.size (rsg (takeN l2) key (.slice (some ⟨g15, 0, none⟩) k k)).toArray rfl rfl 94 _ Qr.out HP9.out.1 HZ9.out HP9.out.2.2 ?_))
            exact bodyPost_ret (v := .agg (rsg (takeN l2) key (.slice (some ⟨g15, 0, none⟩) k k)).toArray) (results_cell_row Tryd.results58 _ _ w.heap.size 94 (rsg (takeN l2) key (.slice (some ⟨g15, 0, none⟩) k k)).toArray (0, 0) _ rfl (Qr.out.setRow _) Tryd.underlying94 rfl HP9.out.1) rfl (takePost_ok hkey hmm hl2 he2 HEN.out.1 HEN.out.2 hz HI9.out HG9.out (by rw [← sumsC_end]; exact HM9.out))
          · have hzi : ¬ ((e3 : Int) = 0) := by omega
            have hO : wr.grownBy (wr.setRow w.heap.size zsig.toArray) (some w.heap.size) := only_setRow (only_refl _ _) _
            have HI9 := Lib.hid (IG.out.far hO (by omega))
            have HG9 : Hid (w.grownBy (wr.setRow w.heap.size zsig.toArray) (some g)) := Lib.hid (grown_new' Gr.out hO (fun b hb => by injection hb with hb; omega))
            go_wp2_with (first | (refine wpList_store_row rfl 94 (.tmp 2) (.tmp 31) rfl w.heap.size zsig.toArray rfl (congrArg Value.agg zsig_arr.symm) 94 _ Qr.out HSZ.out rfl HOZ.out ?_))
            exact bodyPost_ret (v := .agg zsig.toArray) (results_cell_row Tryd.results58 _ _ w.heap.size 94 zsig.toArray (0, 0) _ rfl (Qr.out.setRow _) Tryd.underlying94 rfl HSZ.out) rfl (takePost_no hkey hmm hl2 he2 HEN.out.1 HEN.out.2 hz HI9.out HG9.out)
  · refine Kt.step_new rfl 94 rfl Tryd.zeroCells94 (.pointer (some ⟨X0.heap.size, 0, none⟩)) (by kernel_rfl) ?_
    have hB : Below X0.heap.size X0 (X0.alloc (.cells Tryd.zeroCells94 94)) := (Below.refl _ _).alloc (Nat.le_refl _) _
    have hZ : Blk (X0.alloc (.cells Tryd.zeroCells94 94)) X0.heap.size 94 zsig := by
      have h := Blk.new X0 94 zsig
      rw [zsig_arr] at h
      exact h
    have hg3q := QX0.out.lt
    generalize X0.alloc (.cells Tryd.zeroCells94 94) = X1 at hB hZ ⊢
    obtain ⟨g3, hg3⟩ : ∃ q, X0.heap.size = q := ⟨_, rfl⟩
    rw [hg3] at hZ hg3q ⊢
    clear hg3
    have QX1 : Hid (Blk X1 w.heap.size 94 zsig) := Lib.hid (QX0.out.below hB QX0.out.lt)
    have IX1 : Hid (InZ X1 g l2 e2 0) := Lib.hid (IX0.out.below hB)
    have GX1 : Hid (w.grownBy X1 (some g)) := Lib.hid (Oct.only_below GX0.out hB)
    have ZX1 : Hid (Blk X1 g3 94 zsig) := Lib.hid (hZ)
    clear QX0 IX0 GX0 hB hZ
    refine hK.out _ _ (trivial) (fun hHeld => ?_)
    clear hK K
    show wpAnyH _ _ _ _ _ _ _ (Act.put _ (some 5) _) _
    simp only [Act.put, List.setIfInBounds_toArray, List.set_cons_zero, List.set_cons_succ]
    refine wpAnyH_ready (rs := [1, 4]) (by kernel_rfl) (by simp) ?_
    refine AllReadyH.cons rfl (fun K hK => ?_) (AllReadyH.cons rfl (fun K hK => ?_) AllReadyH.nil)
    · refine step_call rfl 31 #[.tmp 11] #[64] rfl #[.pointer (some ⟨g, 0, none⟩)] (by simp [Act.eval]) (by go_simp) (take_lampz g l2 e2 X1 IX1) ?_
      rintro e X2 ⟨rfl, hi, hg⟩
      have IX2 := Lib.hid hi
      have QX2 := Lib.hid (QX1.out.grown hg (fun e => by injection e with e; omega))
      have GX2 := Lib.hid (GX1.out.trans hg)
      have ZX2 := Lib.hid (ZX1.out.grown hg (fun e => by injection e with e; omega))
      clear hi hg QX1 IX1 GX1 ZX1
      refine ⟨_, rfl, ?_⟩
      refine hK.out _ _ (trivial) (fun hHeld => ?_)
      clear hK K
      show wpAnyH _ _ _ _ _ _ _ (Act.put _ (some 12) _) _
      simp only [Act.put, List.setIfInBounds_toArray, List.set_cons_zero, List.set_cons_succ]
      refine wpAnyH_ready (rs := [4]) (by kernel_rfl) (by simp) ?_
      refine AllReadyH.cons rfl (fun K hK => ?_) AllReadyH.nil
      obtain ⟨X3, hrun, hown, hg⟩ := run_make_full (P := Tryd.prog) X2 0 92 36 i0 (.agg zsum) 32 Tryd.underlying92 hi hz0 hz1 .i64 .i64 m (by rw [hz2]; omega) (by unfold maxLen; omega) (Nat.zero_le _)
      refine Kt.step_make rfl 92 (.tmp 14) (.tmp 14) rfl (.slice (some ⟨X2.heap.size, 0, none⟩) m m) X3 hrun ?_
      have hB : Below X2.heap.size X2 X3 := (Below.refl _ _).grown hg (Nat.le_refl _) (by simp)
      obtain ⟨hr, _⟩ := own_full hown
      rw [show (Value.agg zsum).cells = zsum from rfl, made_sums, ← sumsC_zero (fun i => tk l2 (32 + i)) m] at hr
      have hgq := QX2.out.lt
      obtain ⟨g15, hg15⟩ : ∃ q, X2.heap.size = q := ⟨_, rfl⟩
      rw [hg15] at hr hgq ⊢
      clear hrun hown hg hg15
      have QX3 : Hid (Blk X3 w.heap.size 94 zsig) := Lib.hid (QX2.out.below hB QX2.out.lt)
      have IX3 : Hid (InZ X3 g l2 e2 32) := Lib.hid (IX2.out.below hB)
      have GX3 : Hid (w.grownBy X3 (some g)) := Lib.hid (Oct.only_below GX2.out hB)
      have ZX3 : Hid (Blk X3 g3 94 zsig) := Lib.hid (ZX2.out.below hB ZX2.out.lt)
      have MX3 : Hid (Blk X3 g15 36 (w8 (sumsC (fun i => tk l2 (32 + i)) m 0))) := Lib.hid (hr)
      clear QX2 IX2 GX2 ZX2 hB hr
      refine hK.out _ _ (trivial) (fun hHeld => ?_)
      clear hK K
      show wpAnyH _ _ _ _ _ _ _ (Act.put _ (some 15) _) _
      simp only [Act.put, List.setIfInBounds_toArray, List.set_cons_zero, List.set_cons_succ]
      refine wpAnyH_take (i := 5) (v := .agg (rsg (takeN l2) key (.slice (some ⟨g15, 0, none⟩) m m)).toArray) rfl (by kernel_rfl) (by kernel_rfl) (by kernel_rfl) (fun _ _ _ h => h) (Or.inl ⟨by rfl, fun w' h => run_build_op rfl (by simp [Act.eval]) (build94 (takeN l2) key (some ⟨g15, 0, none⟩, m, m) (takeN_length l2) w')⟩) hHeld ?_
      show wpAnyH _ _ _ _ _ _ _ (Act.put _ (some 16) _) _
      simp only [Act.put, List.setIfInBounds_toArray, List.set_cons_zero, List.set_cons_succ]
      refine wpAnyH_ready (rs := [7]) (by kernel_rfl) (by simp) ?_
      refine AllReadyH.cons rfl (fun K hK => ?_) AllReadyH.nil
      refine Kt.step_store rfl 94 (.tmp 5) (.tmp 16) rfl g3 (rsg (takeN l2) key (.slice (some ⟨g15, 0, none⟩) m m)) rfl rfl 94 _ ZX3.out (by rw [rsg_length _ _ _ (takeN_length l2)]; exact info94) (by rw [zsig_length, rsg_length _ _ _ (takeN_length l2)]) (all_oneCell_toArray (rsg_one _ _ _ rfl)) ?_
      intro X4 hZ hO
      have QX4 := Lib.hid (QX3.out.grown hO (fun e => by injection e with e; omega))
      have MX4 := Lib.hid (MX3.out.grown hO (fun e => by injection e with e; exact Blk.ne_ ZX3.out MX3.out (by decide) e.symm))
      have IX4 := Lib.hid (IX3.out.far hO (by omega))
      have GX4 : Hid (w.grownBy X4 (some g)) := Lib.hid (grown_new' GX3.out hO (fun b hb => by injection hb with hb; omega))
      have ZX4 := Lib.hid hZ
      clear hZ hO QX3 MX3 IX3 GX3 ZX3
      refine hK.out _ _ (trivial) (fun hHeld => ?_)
      clear hK K
      show wpAnyH _ _ _ _ _ _ _ (Act.put _ none _) _
      simp only [Act.put]
      refine wpAnyH_done (by kernel_rfl) ?_ _
      clear hHeld
      go_upto_region 3 with fail
      go_wp2_with fail
      go_loopw [18, 6] (fun i _ wr => ∃ (k : Nat), k ≤ m ∧ i = .int .i64 k ∧ Hid (Blk wr w.heap.size 94 zsig) ∧ Hid (InZ wr g l2 e2 (32 + k)) ∧ Hid (w.grownBy wr (some g)) ∧ Hid (Blk wr g15 36 (w8 (sumsC (fun i => tk l2 (32 + i)) m k))) ∧ Hid (Blk wr g3 94 (rsg (takeN l2) key (.slice (some ⟨g15, 0, none⟩) m m)))) (fun i _ _ => m - (intOf i).toNat)
      case atStart => exact ⟨0, Nat.zero_le _, rfl, QX4, IX4, GX4, MX4, ZX4⟩
      case round =>
        clear QX4 IX4 GX4 MX4 ZX4
        obtain ⟨k, hk, rfl, Qr, Ir, Gr, Mr, Zr⟩ := hrel
        by_cases hlt : k < m
        · have k1 : (k : Int) < (m : Int) := by omega
          have k2 : (k : Int) ≤ 8 := by omega
          go_upto_region 6 with fail
          have hBz : Below wr.heap.size wr wr.drew := below_drewN (Below.refl _ _) 1
          have QY0 : Hid (Blk wr.drew w.heap.size 94 zsig) := Lib.hid (Qr.out.below hBz Qr.out.lt)
          have IY0 : Hid (InZ wr.drew g l2 e2 (32 + k)) := Lib.hid (Ir.out.below hBz)
          have GY0 : Hid (w.grownBy wr.drew (some g)) := Lib.hid (Oct.only_below Gr.out hBz)
          have MY0 : Hid (Blk wr.drew g15 36 (w8 (sumsC (fun i => tk l2 (32 + i)) m k))) := Lib.hid (Mr.out.below hBz Mr.out.lt)
          have ZY0 : Hid (Blk wr.drew g3 94 (rsg (takeN l2) key (.slice (some ⟨g15, 0, none⟩) m m))) := Lib.hid (Zr.out.below hBz Zr.out.lt)
          clear hBz
          refine wp_region_held_drew (S := fun w' => Blk w' g3 94 (rsg (takeN l2) key (.slice (some ⟨g15, 0, none⟩) m m))) (by kernel_rfl) (ZY0.out) (fun hHeld => ?_)
          generalize wr.drew = Y0 at hHeld QY0 IY0 GY0 MY0 ZY0 ⊢
          refine wpAnyH_take (i := 0) (v := .pointer (some ⟨g3, 1025, none⟩)) rfl (by kernel_rfl) (by kernel_rfl) (by kernel_rfl) (fun _ _ _ h => h) (Or.inl ⟨by rfl, by intro w' h; go_simp⟩) hHeld ?_
          show wpAnyH _ _ _ _ _ _ _ (Act.put _ (some 21) _) _
          simp only [Act.put, List.setIfInBounds_toArray, List.set_cons_zero, List.set_cons_succ]
          refine wpAnyH_take (i := 1) (v := .slice (some ⟨g15, 0, none⟩) m m) rfl (by kernel_rfl) (by kernel_rfl) (by kernel_rfl) (fun _ _ _ h => h) (Or.inl ⟨by rfl, by intro w' h; have q9 := Blk.cell h 1025; rw [rsg_way _ _ _ (takeN_length l2)] at q9; go_simp⟩) hHeld ?_
          show wpAnyH _ _ _ _ _ _ _ (Act.put _ (some 22) _) _
          simp only [Act.put, List.setIfInBounds_toArray, List.set_cons_zero, List.set_cons_succ]
          refine wpAnyH_take (i := 2) (v := .int .i64 (k : Int)) rfl (by kernel_rfl) (by kernel_rfl) (by kernel_rfl) (fun _ _ _ h => h) (Or.inl ⟨by rfl, fun w _ => by rfl⟩) hHeld ?_
          show wpAnyH _ _ _ _ _ _ _ (Act.put _ (some 23) _) _
          simp only [Act.put, List.setIfInBounds_toArray, List.set_cons_zero, List.set_cons_succ]
          refine wpAnyH_take (i := 3) (v := .pointer (some ⟨g, 0, none⟩)) rfl (by kernel_rfl) (by kernel_rfl) (by kernel_rfl) (fun _ _ _ h => h) (Or.inl ⟨by rfl, fun w _ => by rfl⟩) hHeld ?_
          show wpAnyH _ _ _ _ _ _ _ (Act.put _ (some 24) _) _
          simp only [Act.put, List.setIfInBounds_toArray, List.set_cons_zero, List.set_cons_succ]
          refine wpAnyH_ready (rs := [4]) (by kernel_rfl) (by simp) ?_
          refine AllReadyH.cons rfl (fun K hK => ?_) AllReadyH.nil
          refine step_call rfl 72 #[.tmp 24] #[64] rfl #[.pointer (some ⟨g, 0, none⟩)] (by simp [Act.eval]) (by go_simp) (insumz_any g l2 e2 (32 + k) Y0 IY0) ?_
          rintro e X1 ⟨rfl, hi, hg⟩
          have IX1 : Hid (InZ X1 g l2 e2 (32 + (k + 1))) := Lib.hid hi
          have QX1 := Lib.hid (QY0.out.grown hg (fun e => by injection e with e; omega))
          have MX1 := Lib.hid (MY0.out.grown hg (fun e => by injection e with e; omega))
          have ZX1 := Lib.hid (ZY0.out.grown hg (fun e => by injection e with e; omega))
          have GX1 := Lib.hid (GY0.out.trans hg)
          clear hi hg QY0 IY0 GY0 MY0 ZY0
          refine ⟨_, rfl, ?_⟩
          refine hK.out _ _ (ZX1.out) (fun hHeld => ?_)
          clear hK K
          show wpAnyH _ _ _ _ _ _ _ (Act.put _ (some 25) _) _
          simp only [Act.put, List.setIfInBounds_toArray, List.set_cons_zero, List.set_cons_succ]
          refine wpAnyH_take (i := 5) (v := .pointer (some ⟨g15, k * 32, none⟩)) rfl (by kernel_rfl) (by kernel_rfl) (by kernel_rfl) (fun _ _ _ h => h) (Or.inl ⟨by rfl, by intro w' h; go_simp⟩) hHeld ?_
          show wpAnyH _ _ _ _ _ _ _ (Act.put _ (some 26) _) _
          simp only [Act.put, List.setIfInBounds_toArray, List.set_cons_zero, List.set_cons_succ]
          refine wpAnyH_ready (rs := [6]) (by kernel_rfl) (by simp) ?_
          refine AllReadyH.cons rfl (fun K hK => ?_) AllReadyH.nil
          refine step_store_mid rfl 36 (.tmp 26) (.tmp 25) rfl g15 (k * 32) (w8 (tk l2 (32 + k))) rfl rfl (MX1.out.there _ _ (by rw [w8_length, w8_length, tk_length, sumsC_length (fun i => tk l2 (32 + i)) hF m k (by omega)]; omega)) (by rw [w8_length, tk_length]; exact info36) (w8_one _) ?_
          have hO : X1.grownBy (X1.setCells g15 (k * 32) (w8 (tk l2 (32 + k)))) (some g15) := only_cells _ _ _
          have MX2 : Hid (Blk (X1.setCells g15 (k * 32) (w8 (tk l2 (32 + k)))) g15 36 (w8 (sumsC (fun i => tk l2 (32 + i)) m (k + 1)))) := Lib.hid (Blk.put8' (fun i => tk l2 (32 + i)) hF m k hlt MX1.out)
          have QX2 := Lib.hid (QX1.out.grown hO (fun e => by injection e with e; omega))
          have ZX2 := Lib.hid (ZX1.out.grown hO (fun e => by injection e with e; exact Blk.ne_ ZX1.out MX1.out (by decide) e))
          have IX2 := Lib.hid (IX1.out.far hO (by omega))
          have GX2 := Lib.hid (grown_new' GX1.out hO (fun b hb => by injection hb with hb; omega))
          clear hO QX1 IX1 GX1 MX1 ZX1
          generalize X1.setCells g15 (k * 32) (w8 (tk l2 (32 + k))) = X2 at MX2 QX2 ZX2 IX2 GX2 ⊢
          refine hK.out _ _ (ZX2.out) (fun hHeld => ?_)
          clear hK K
          show wpAnyH _ _ _ _ _ _ _ (Act.put _ none _) _
          simp only [Act.put]
          refine wpAnyH_done (by kernel_rfl) ?_ _
          clear hHeld
          go_wp2
          go_roundw
          case rel => exact ⟨k + 1, by omega, by go_num, QX2, IX2, GX2, MX2, ZX2⟩
          case measure => simp [intOf]; omega
        · obtain rfl : k = m := by omega
          have IG := Lib.hid (InZ_G Ir.out)
          obtain ⟨e3, he3⟩ : ∃ q, Oct.aftE l2 e2 (32 * (32 + k)) = q := ⟨_, rfl⟩
          obtain ⟨l3, hl3⟩ : ∃ q, Oct.aftL l2 (32 * (32 + k)) = q := ⟨_, rfl⟩
          rw [he3, hl3] at IG
          have HEN := Lib.hid (And.intro he3 hl3)
          clear he3 hl3
          go_wp2_with fail
          refine (Oct.bad_G g e3 l3 wr IG).mono ?_
          rintro e w1 ⟨rfl, rfl⟩
          by_cases hz : e3 = 0
          · have hzi : (e3 : Int) = 0 := by omega
            have hO : wr.grownBy (wr.setRow w.heap.size (rsg (takeN l2) key (.slice (some ⟨g15, 0, none⟩) k k)).toArray) (some w.heap.size) := only_setRow (only_refl _ _) _
            have HI9 := Lib.hid (IG.out.far hO (by omega))
            have HG9 : Hid (w.grownBy (wr.setRow w.heap.size (rsg (takeN l2) key (.slice (some ⟨g15, 0, none⟩) k k)).toArray) (some g)) := Lib.hid (grown_new' Gr.out hO (fun b hb => by injection hb with hb; omega))
            have HM9 := Lib.hid (Mr.out.grown hO (fun e => by injection e with e; omega))
            have HP9 := Lib.hid (sig_put (takeN l2) key (some ⟨g15, 0, none⟩) k k (takeN_length l2))
            have HZ9 : Hid (zsig.toArray.size = (rsg (takeN l2) key (.slice (some ⟨g15, 0, none⟩) k k)).toArray.size) := Lib.hid (by rw [zsig_arr]; exact HP9.out.2.1)
            have HRZ := Lib.hid Zr.out.all
            go_wp2_with (first | (refine wpList_load_mid rfl 94 (.tmp 5) rfl g3 0 rfl (rsg (takeN l2) key (.slice (some ⟨g15, 0, none⟩) k k)) _ HRZ.out Tryd.underlying94 rfl (by rw [rsg_length _ _ _ (takeN_length l2)]; exact info94) ?_) | (refine wpList_store_row rfl 94 (.tmp 2) (.tmp 32) rfl w.heap.size (rsg (takeN l2) key (.slice (some ⟨g15, 0, none⟩) k k)).toArray rfl rfl 94 _ Qr.out HP9.out.1 HZ9.out HP9.out.2.2 ?_))
            exact bodyPost_ret (v := .agg (rsg (takeN l2) key (.slice (some ⟨g15, 0, none⟩) k k)).toArray) (results_cell_row Tryd.results58 _ _ w.heap.size 94 (rsg (takeN l2) key (.slice (some ⟨g15, 0, none⟩) k k)).toArray (0, 0) _ rfl (Qr.out.setRow _) Tryd.underlying94 rfl HP9.out.1) rfl (takePost_ok hkey hmm hl2 he2 HEN.out.1 HEN.out.2 hz HI9.out HG9.out (by rw [← sumsC_end]; exact HM9.out))
          · have hzi : ¬ ((e3 : Int) = 0) := by omega
            have hO : wr.grownBy (wr.setRow w.heap.size zsig.toArray) (some w.heap.size) := only_setRow (only_refl _ _) _
            have HI9 := Lib.hid (IG.out.far hO (by omega))
            have HG9 : Hid (w.grownBy (wr.setRow w.heap.size zsig.toArray) (some g)) := Lib.hid (grown_new' Gr.out hO (fun b hb => by injection hb with hb; omega))
            go_wp2_with (first | (refine wpList_store_row rfl 94 (.tmp 2) (.tmp 31) rfl w.heap.size zsig.toArray rfl (congrArg Value.agg zsig_arr.symm) 94 _ Qr.out HSZ.out rfl HOZ.out ?_))
            exact bodyPost_ret (v := .agg zsig.toArray) (results_cell_row Tryd.results58 _ _ w.heap.size 94 zsig.toArray (0, 0) _ rfl (Qr.out.setRow _) Tryd.underlying94 rfl HSZ.out) rfl (takePost_no hkey hmm hl2 he2 HEN.out.1 HEN.out.2 hz HI9.out HG9.out)
    · obtain ⟨X2, hrun, hown, hg⟩ := run_make_full (P := Tryd.prog) X1 0 92 36 i0 (.agg zsum) 32 Tryd.underlying92 hi hz0 hz1 .i64 .i64 m (by rw [hz2]; omega) (by unfold maxLen; omega) (Nat.zero_le _)
      refine Kt.step_make rfl 92 (.tmp 14) (.tmp 14) rfl (.slice (some ⟨X1.heap.size, 0, none⟩) m m) X2 hrun ?_
      have hB : Below X1.heap.size X1 X2 := (Below.refl _ _).grown hg (Nat.le_refl _) (by simp)
      obtain ⟨hr, _⟩ := own_full hown
      rw [show (Value.agg zsum).cells = zsum from rfl, made_sums, ← sumsC_zero (fun i => tk l2 (32 + i)) m] at hr
      have hgq := QX1.out.lt
      obtain ⟨g15, hg15⟩ : ∃ q, X1.heap.size = q := ⟨_, rfl⟩
      rw [hg15] at hr hgq ⊢
      clear hrun hown hg hg15
      have QX2 : Hid (Blk X2 w.heap.size 94 zsig) := Lib.hid (QX1.out.below hB QX1.out.lt)
      have IX2 : Hid (InZ X2 g l2 e2 0) := Lib.hid (IX1.out.below hB)
      have GX2 : Hid (w.grownBy X2 (some g)) := Lib.hid (Oct.only_below GX1.out hB)
      have ZX2 : Hid (Blk X2 g3 94 zsig) := Lib.hid (ZX1.out.below hB ZX1.out.lt)
      have MX2 : Hid (Blk X2 g15 36 (w8 (sumsC (fun i => tk l2 (32 + i)) m 0))) := Lib.hid (hr)
      clear QX1 IX1 GX1 ZX1 hB hr
      refine hK.out _ _ (trivial) (fun hHeld => ?_)
      clear hK K
      show wpAnyH _ _ _ _ _ _ _ (Act.put _ (some 15) _) _
      simp only [Act.put, List.setIfInBounds_toArray, List.set_cons_zero, List.set_cons_succ]
      refine wpAnyH_ready (rs := [1]) (by kernel_rfl) (by simp) ?_
      refine AllReadyH.cons rfl (fun K hK => ?_) AllReadyH.nil
      refine step_call rfl 31 #[.tmp 11] #[64] rfl #[.pointer (some ⟨g, 0, none⟩)] (by simp [Act.eval]) (by go_simp) (take_lampz g l2 e2 X2 IX2) ?_
      rintro e X3 ⟨rfl, hi, hg⟩
      have IX3 := Lib.hid hi
      have QX3 := Lib.hid (QX2.out.grown hg (fun e => by injection e with e; omega))
      have GX3 := Lib.hid (GX2.out.trans hg)
      have MX3 := Lib.hid (MX2.out.grown hg (fun e => by injection e with e; omega))
      have ZX3 := Lib.hid (ZX2.out.grown hg (fun e => by injection e with e; omega))
      clear hi hg QX2 IX2 GX2 ZX2 MX2
      refine ⟨_, rfl, ?_⟩
      refine hK.out _ _ (trivial) (fun hHeld => ?_)
      clear hK K
      show wpAnyH _ _ _ _ _ _ _ (Act.put _ (some 12) _) _
      simp only [Act.put, List.setIfInBounds_toArray, List.set_cons_zero, List.set_cons_succ]
      refine wpAnyH_take (i := 5) (v := .agg (rsg (takeN l2) key (.slice (some ⟨g15, 0, none⟩) m m)).toArray) rfl (by kernel_rfl) (by kernel_rfl) (by kernel_rfl) (fun _ _ _ h => h) (Or.inl ⟨by rfl, fun w' h => run_build_op rfl (by simp [Act.eval]) (build94 (takeN l2) key (some ⟨g15, 0, none⟩, m, m) (takeN_length l2) w')⟩) hHeld ?_
      show wpAnyH _ _ _ _ _ _ _ (Act.put _ (some 16) _) _
      simp only [Act.put, List.setIfInBounds_toArray, List.set_cons_zero, List.set_cons_succ]
      refine wpAnyH_ready (rs := [7]) (by kernel_rfl) (by simp) ?_
      refine AllReadyH.cons rfl (fun K hK => ?_) AllReadyH.nil
      refine Kt.step_store rfl 94 (.tmp 5) (.tmp 16) rfl g3 (rsg (takeN l2) key (.slice (some ⟨g15, 0, none⟩) m m)) rfl rfl 94 _ ZX3.out (by rw [rsg_length _ _ _ (takeN_length l2)]; exact info94) (by rw [zsig_length, rsg_length _ _ _ (takeN_length l2)]) (all_oneCell_toArray (rsg_one _ _ _ rfl)) ?_
      intro X4 hZ hO
      have QX4 := Lib.hid (QX3.out.grown hO (fun e => by injection e with e; omega))
      have MX4 := Lib.hid (MX3.out.grown hO (fun e => by injection e with e; exact Blk.ne_ ZX3.out MX3.out (by decide) e.symm))
      have IX4 := Lib.hid (IX3.out.far hO (by omega))
      have GX4 : Hid (w.grownBy X4 (some g)) := Lib.hid (grown_new' GX3.out hO (fun b hb => by injection hb with hb; omega))
      have ZX4 := Lib.hid hZ
      clear hZ hO QX3 MX3 IX3 GX3 ZX3
      refine hK.out _ _ (trivial) (fun hHeld => ?_)
      clear hK K
      show wpAnyH _ _ _ _ _ _ _ (Act.put _ none _) _
      simp only [Act.put]
      refine wpAnyH_done (by kernel_rfl) ?_ _
      clear hHeld
      go_upto_region 3 with fail
      go_wp2_with fail
      go_loopw [18, 6] (fun i _ wr => ∃ (k : Nat), k ≤ m ∧ i = .int .i64 k ∧ Hid (Blk wr w.heap.size 94 zsig) ∧ Hid (InZ wr g l2 e2 (32 + k)) ∧ Hid (w.grownBy wr (some g)) ∧ Hid (Blk wr g15 36 (w8 (sumsC (fun i => tk l2 (32 + i)) m k))) ∧ Hid (Blk wr g3 94 (rsg (takeN l2) key (.slice (some ⟨g15, 0, none⟩) m m)))) (fun i _ _ => m - (intOf i).toNat)
      case atStart => exact ⟨0, Nat.zero_le _, rfl, QX4, IX4, GX4, MX4, ZX4⟩
      case round =>
        clear QX4 IX4 GX4 MX4 ZX4
        obtain ⟨k, hk, rfl, Qr, Ir, Gr, Mr, Zr⟩ := hrel
        by_cases hlt : k < m
        · have k1 : (k : Int) < (m : Int) := by omega
          have k2 : (k : Int) ≤ 8 := by omega
          go_upto_region 6 with fail
          have hBz : Below wr.heap.size wr wr.drew := below_drewN (Below.refl _ _) 1
          have QY0 : Hid (Blk wr.drew w.heap.size 94 zsig) := Lib.hid (Qr.out.below hBz Qr.out.lt)
          have IY0 : Hid (InZ wr.drew g l2 e2 (32 + k)) := Lib.hid (Ir.out.below hBz)
          have GY0 : Hid (w.grownBy wr.drew (some g)) := Lib.hid (Oct.only_below Gr.out hBz)
          have MY0 : Hid (Blk wr.drew g15 36 (w8 (sumsC (fun i => tk l2 (32 + i)) m k))) := Lib.hid (Mr.out.below hBz Mr.out.lt)
          have ZY0 : Hid (Blk wr.drew g3 94 (rsg (takeN l2) key (.slice (some ⟨g15, 0, none⟩) m m))) := Lib.hid (Zr.out.below hBz Zr.out.lt)
          clear hBz
          refine wp_region_held_drew (S := fun w' => Blk w' g3 94 (rsg (takeN l2) key (.slice (some ⟨g15, 0, none⟩) m m))) (by kernel_rfl) (ZY0.out) (fun hHeld => ?_)
          generalize wr.drew = Y0 at hHeld QY0 IY0 GY0 MY0 ZY0 ⊢
          refine wpAnyH_take (i := 0) (v := .pointer (some ⟨g3, 1025, none⟩)) rfl (by kernel_rfl) (by kernel_rfl) (by kernel_rfl) (fun _ _ _ h => h) (Or.inl ⟨by rfl, by intro w' h; go_simp⟩) hHeld ?_
          show wpAnyH _ _ _ _ _ _ _ (Act.put _ (some 21) _) _
          simp only [Act.put, List.setIfInBounds_toArray, List.set_cons_zero, List.set_cons_succ]
          refine wpAnyH_take (i := 1) (v := .slice (some ⟨g15, 0, none⟩) m m) rfl (by kernel_rfl) (by kernel_rfl) (by kernel_rfl) (fun _ _ _ h => h) (Or.inl ⟨by rfl, by intro w' h; have q9 := Blk.cell h 1025; rw [rsg_way _ _ _ (takeN_length l2)] at q9; go_simp⟩) hHeld ?_
          show wpAnyH _ _ _ _ _ _ _ (Act.put _ (some 22) _) _
          simp only [Act.put, List.setIfInBounds_toArray, List.set_cons_zero, List.set_cons_succ]
          refine wpAnyH_take (i := 2) (v := .int .i64 (k : Int)) rfl (by kernel_rfl) (by kernel_rfl) (by kernel_rfl) (fun _ _ _ h => h) (Or.inl ⟨by rfl, fun w _ => by rfl⟩) hHeld ?_
          show wpAnyH _ _ _ _ _ _ _ (Act.put _ (some 23) _) _
          simp only [Act.put, List.setIfInBounds_toArray, List.set_cons_zero, List.set_cons_succ]
          refine wpAnyH_take (i := 3) (v := .pointer (some ⟨g, 0, none⟩)) rfl (by kernel_rfl) (by kernel_rfl) (by kernel_rfl) (fun _ _ _ h => h) (Or.inl ⟨by rfl, fun w _ => by rfl⟩) hHeld ?_
          show wpAnyH _ _ _ _ _ _ _ (Act.put _ (some 24) _) _
          simp only [Act.put, List.setIfInBounds_toArray, List.set_cons_zero, List.set_cons_succ]
          refine wpAnyH_ready (rs := [4]) (by kernel_rfl) (by simp) ?_
          refine AllReadyH.cons rfl (fun K hK => ?_) AllReadyH.nil
          refine step_call rfl 72 #[.tmp 24] #[64] rfl #[.pointer (some ⟨g, 0, none⟩)] (by simp [Act.eval]) (by go_simp) (insumz_any g l2 e2 (32 + k) Y0 IY0) ?_
          rintro e X1 ⟨rfl, hi, hg⟩
          have IX1 : Hid (InZ X1 g l2 e2 (32 + (k + 1))) := Lib.hid hi
          have QX1 := Lib.hid (QY0.out.grown hg (fun e => by injection e with e; omega))
          have MX1 := Lib.hid (MY0.out.grown hg (fun e => by injection e with e; omega))
          have ZX1 := Lib.hid (ZY0.out.grown hg (fun e => by injection e with e; omega))
          have GX1 := Lib.hid (GY0.out.trans hg)
          clear hi hg QY0 IY0 GY0 MY0 ZY0
          refine ⟨_, rfl, ?_⟩
          refine hK.out _ _ (ZX1.out) (fun hHeld => ?_)
          clear hK K
          show wpAnyH _ _ _ _ _ _ _ (Act.put _ (some 25) _) _
          simp only [Act.put, List.setIfInBounds_toArray, List.set_cons_zero, List.set_cons_succ]
          refine wpAnyH_take (i := 5) (v := .pointer (some ⟨g15, k * 32, none⟩)) rfl (by kernel_rfl) (by kernel_rfl) (by kernel_rfl) (fun _ _ _ h => h) (Or.inl ⟨by rfl, by intro w' h; go_simp⟩) hHeld ?_
          show wpAnyH _ _ _ _ _ _ _ (Act.put _ (some 26) _) _
          simp only [Act.put, List.setIfInBounds_toArray, List.set_cons_zero, List.set_cons_succ]
          refine wpAnyH_ready (rs := [6]) (by kernel_rfl) (by simp) ?_
          refine AllReadyH.cons rfl (fun K hK => ?_) AllReadyH.nil
          refine step_store_mid rfl 36 (.tmp 26) (.tmp 25) rfl g15 (k * 32) (w8 (tk l2 (32 + k))) rfl rfl (MX1.out.there _ _ (by rw [w8_length, w8_length, tk_length, sumsC_length (fun i => tk l2 (32 + i)) hF m k (by omega)]; omega)) (by rw [w8_length, tk_length]; exact info36) (w8_one _) ?_
          have hO : X1.grownBy (X1.setCells g15 (k * 32) (w8 (tk l2 (32 + k)))) (some g15) := only_cells _ _ _
          have MX2 : Hid (Blk (X1.setCells g15 (k * 32) (w8 (tk l2 (32 + k)))) g15 36 (w8 (sumsC (fun i => tk l2 (32 + i)) m (k + 1)))) := Lib.hid (Blk.put8' (fun i => tk l2 (32 + i)) hF m k hlt MX1.out)
          have QX2 := Lib.hid (QX1.out.grown hO (fun e => by injection e with e; omega))
          have ZX2 := Lib.hid (ZX1.out.grown hO (fun e => by injection e with e; exact Blk.ne_ ZX1.out MX1.out (by decide) e))
          have IX2 := Lib.hid (IX1.out.far hO (by omega))
          have GX2 := Lib.hid (grown_new' GX1.out hO (fun b hb => by injection hb with hb; omega))
          clear hO QX1 IX1 GX1 MX1 ZX1
          generalize X1.setCells g15 (k * 32) (w8 (tk l2 (32 + k))) = X2 at MX2 QX2 ZX2 IX2 GX2 ⊢
          refine hK.out _ _ (ZX2.out) (fun hHeld => ?_)
          clear hK K
          show wpAnyH _ _ _ _ _ _ _ (Act.put _ none _) _
          simp only [Act.put]
          refine wpAnyH_done (by kernel_rfl) ?_ _
          clear hHeld
          go_wp2
          go_roundw
          case rel => exact ⟨k + 1, by omega, by go_num, QX2, IX2, GX2, MX2, ZX2⟩
          case measure => simp [intOf]; omega
        · obtain rfl : k = m := by omega
          have IG := Lib.hid (InZ_G Ir.out)
          obtain ⟨e3, he3⟩ : ∃ q, Oct.aftE l2 e2 (32 * (32 + k)) = q := ⟨_, rfl⟩
          obtain ⟨l3, hl3⟩ : ∃ q, Oct.aftL l2 (32 * (32 + k)) = q := ⟨_, rfl⟩
          rw [he3, hl3] at IG
          have HEN := Lib.hid (And.intro he3 hl3)
          clear he3 hl3
          go_wp2_with fail
          refine (Oct.bad_G g e3 l3 wr IG).mono ?_
          rintro e w1 ⟨rfl, rfl⟩
          by_cases hz : e3 = 0
          · have hzi : (e3 : Int) = 0 := by omega
            have hO : wr.grownBy (wr.setRow w.heap.size (rsg (takeN l2) key (.slice (some ⟨g15, 0, none⟩) k k)).toArray) (some w.heap.size) := only_setRow (only_refl _ _) _
            have HI9 := Lib.hid (IG.out.far hO (by omega))
            have HG9 : Hid (w.grownBy (wr.setRow w.heap.size (rsg (takeN l2) key (.slice (some ⟨g15, 0, none⟩) k k)).toArray) (some g)) := Lib.hid (grown_new' Gr.out hO (fun b hb => by injection hb with hb; omega))
            have HM9 := Lib.hid (Mr.out.grown hO (fun e => by injection e with e; omega))
            have HP9 := Lib.hid (sig_put (takeN l2) key (some ⟨g15, 0, none⟩) k k (takeN_length l2))
            have HZ9 : Hid (zsig.toArray.size = (rsg (takeN l2) key (.slice (some ⟨g15, 0, none⟩) k k)).toArray.size) := Lib.hid (by rw [zsig_arr]; exact HP9.out.2.1)
            have HRZ := Lib.hid Zr.out.all
            go_wp2_with (first | (refine wpList_load_mid rfl 94 (.tmp 5) rfl g3 0 rfl (rsg (takeN l2) key (.slice (some ⟨g15, 0, none⟩) k k)) _ HRZ.out Tryd.underlying94 rfl (by rw [rsg_length _ _ _ (takeN_length l2)]; exact info94) ?_) | (refine wpList_store_row rfl 94 (.tmp 2) (.tmp 32) rfl w.heap.size (rsg (takeN l2) key (.slice (some ⟨g15, 0, none⟩) k k)).toArray rfl rfl 94 _ Qr.out HP9.out.1 HZ9.out HP9.out.2.2 ?_))
            exact bodyPost_ret (v := .agg (rsg (takeN l2) key (.slice (some ⟨g15, 0, none⟩) k k)).toArray) (results_cell_row Tryd.results58 _ _ w.heap.size 94 (rsg (takeN l2) key (.slice (some ⟨g15, 0, none⟩) k k)).toArray (0, 0) _ rfl (Qr.out.setRow _) Tryd.underlying94 rfl HP9.out.1) rfl (takePost_ok hkey hmm hl2 he2 HEN.out.1 HEN.out.2 hz HI9.out HG9.out (by rw [← sumsC_end]; exact HM9.out))
          · have hzi : ¬ ((e3 : Int) = 0) := by omega
            have hO : wr.grownBy (wr.setRow w.heap.size zsig.toArray) (some w.heap.size) := only_setRow (only_refl _ _) _
            have HI9 := Lib.hid (IG.out.far hO (by omega))
            have HG9 : Hid (w.grownBy (wr.setRow w.heap.size zsig.toArray) (some g)) := Lib.hid (grown_new' Gr.out hO (fun b hb => by injection hb with hb; omega))
            go_wp2_with (first | (refine wpList_store_row rfl 94 (.tmp 2) (.tmp 31) rfl w.heap.size zsig.toArray rfl (congrArg Value.agg zsig_arr.symm) 94 _ Qr.out HSZ.out rfl HOZ.out ?_))
            exact bodyPost_ret (v := .agg zsig.toArray) (results_cell_row Tryd.results58 _ _ w.heap.size 94 zsig.toArray (0, 0) _ rfl (Qr.out.setRow _) Tryd.underlying94 rfl HSZ.out) rfl (takePost_no hkey hmm hl2 he2 HEN.out.1 HEN.out.2 hz HI9.out HG9.out)
end Go.Proofs.YtkonokjhpddbfaaDoor
