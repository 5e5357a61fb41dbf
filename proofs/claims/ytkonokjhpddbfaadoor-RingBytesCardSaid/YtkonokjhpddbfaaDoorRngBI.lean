/-
  The document's: a ring's signature off bytes: Take (function 59), off any In.
-/
import Derived.Test.YtkonokjhpddbfaaDoorRngBH
import Derived.Test.YtkonokjhpddbfaaDoorRngY
namespace Go.Proofs.YtkonokjhpddbfaaDoor
open Go.RowKit
set_option linter.unusedVariables false

theorem RefG.farO {w w' : World} {g : Nat} {A : Option Addr} {c : Nat} {l : List Nat} {at_ e0 : Nat} {row : Option Nat} (h : RefG w g A c l at_ e0) (hg : w.grownBy w' row) (hn : ∀ q, row = some q → g < q) : RefG w' g A c l at_ e0 := by
  rcases row with _ | q
  · exact h.below ((Below.refl _ _).grown hg (Nat.le_refl _) (by simp))
  · exact h.far hg (hn q rfl)
theorem RefZ.farO {w w' : World} {g : Nat} {A : Option Addr} {c : Nat} {l r0 : List Nat} {e0 k : Nat} {row : Option Nat} (h : RefZ w g A c l r0 e0 k) (hg : w.grownBy w' row) (hn : ∀ q, row = some q → g < q) : RefZ w' g A c l r0 e0 k := by
  obtain ⟨h1, a, h2, h3⟩ := h
  exact ⟨h1, a, h2.farO hg hn, h3⟩
theorem zsig_key (k : Nat) : zsig.set 1024 (.int .u32 (k : Int)) = rsg zS k (.slice none 0 0) := by
  unfold zsig rsg zS
  rw [List.set_append_right _ _ (by rw [w8_length, List.length_replicate]; omega), w8_length, List.length_replicate]
  rfl
/-- What the document's Take answers, and what is left of its In. -/
def RefTakePost (w : World) (g : Nat) (A : Option Addr) (c : Nat) (l r0 : List Nat) (e0 : Nat) (r : Ending) (w' : World) : Prop :=
  RefR w' g A c l (tkL r0) (tkE r0 e0) ∧ w.grownBy w' (some g) ∧ (tkE r0 e0 = 0 → ∃ u, r = .returned (.agg (rsg (tkS r0) (Oct.numG r0 4) u).toArray) ∧ WayR w' u (tkW r0) (tkM r0)) ∧ (tkE r0 e0 ≠ 0 → r = .returned (.agg zsig.toArray))
theorem refPost_ok {w w' : World} {g e0 key m e2 e3 c : Nat} {A : Option Addr} {l r0 l2 l3 : List Nat} {u : Value} (hkey : Oct.numG r0 4 = key) (hmm : Oct.manyV (Oct.aftL r0 4) 8 = m) (hl2 : Oct.manyL (Oct.aftL r0 4) 8 = l2) (he2 : Oct.manyE (Oct.aftL r0 4) (Oct.aftE r0 e0 4) 8 = e2)
    (he3 : Oct.aftE l2 e2 (32 * (32 + m)) = e3) (hl3 : Oct.aftL l2 (32 * (32 + m)) = l3) (hz : e3 = 0) (hI : RefR w' g A c l l3 e3) (hG : w.grownBy w' (some g)) (hM : WayR w' u (fun i => tk l2 (32 + i)) m) :
    RefTakePost w g A c l r0 e0 (.returned (.agg (rsg (takeN l2) key u).toArray)) w' := by
  have hz' : tkE r0 e0 = 0 := by unfold tkE tkM; rw [hl2, he2, hmm, he3, hz]
  rw [hz] at he3
  subst hl3
  subst hkey
  subst hmm
  subst hl2
  subst he2
  refine ⟨?_, hG, fun _ => ⟨u, rfl, hM⟩, fun h => absurd hz' h⟩
  rw [hz', ← hz]
  exact hI
theorem refPost_no {w w' : World} {g e0 key m e2 e3 c : Nat} {A : Option Addr} {l r0 l2 l3 : List Nat} (hkey : Oct.numG r0 4 = key) (hmm : Oct.manyV (Oct.aftL r0 4) 8 = m) (hl2 : Oct.manyL (Oct.aftL r0 4) 8 = l2) (he2 : Oct.manyE (Oct.aftL r0 4) (Oct.aftE r0 e0 4) 8 = e2)
    (he3 : Oct.aftE l2 e2 (32 * (32 + m)) = e3) (hl3 : Oct.aftL l2 (32 * (32 + m)) = l3) (hz : ¬ e3 = 0) (hI : RefR w' g A c l l3 e3) (hG : w.grownBy w' (some g)) :
    RefTakePost w g A c l r0 e0 (.returned (.agg zsig.toArray)) w' := by
  have h' : tkE r0 e0 = e3 := by unfold tkE tkM; rw [hl2, he2, hmm, he3]
  subst hl3
  subst hkey
  subst hmm
  subst hl2
  subst he2
  refine ⟨?_, hG, fun h => absurd (h'.symm.trans h) hz, fun _ => rfl⟩
  rw [h']
  exact hI
theorem refR_nil {w : World} {g : Nat} {A : Option Addr} {c : Nat} {l r : List Nat} {e : Nat} (h : RefR w g A c l r e) : e ≠ 0 → r = [] := by
  obtain ⟨a, _, h2⟩ := h
  intro he
  rw [h2, if_neg he]
theorem refR_Z {w : World} {g : Nat} {A : Option Addr} {c : Nat} {l r : List Nat} {e : Nat} (h : RefR w g A c l r e) : RefZ w g A c l r e 0 := by
  refine ⟨refR_nil h, ?_⟩
  have e1 : Oct.aftL r (32 * 0) = r := aftL_ok (Nat.zero_le _)
  have e2 : Oct.aftE r e (32 * 0) = e := by
    by_cases he : e = 0
    · subst he; exact aftE_ok (Nat.zero_le _)
    · exact aftE_bad he
  rw [e1, e2]
  exact h
set_option maxRecDepth 100000 in
set_option maxHeartbeats 4000000 in
theorem reftake_any (g : Nat) (A : Option Addr) (c : Nat) (l r0 : List Nat) (e0 : Nat) (w : World) (HI : Hid (RefR w g A c l r0 e0)) (hl : l.length ≤ 5000) :
    Calls Tryd.prog 59 #[.pointer (some ⟨g, 0, none⟩)] w (RefTakePost w g A c l r0 e0) := by
  have HSZ : Hid ((Tryd.prog.info? 99).map (·.size) = some zsig.toArray.size) := Lib.hid (by rw [List.size_toArray, zsig_length]; exact info99)
  have HOZ := Lib.hid (all_oneCell_toArray zsig_one)
  have hgw := HI.out.lt
  obtain ⟨i0, hi, hz0, hz1, hz2⟩ := info_parts info29f
  have hlt4 : ((Oct.numG r0 4 : Nat) : Int) ≤ 4294967295 := by have := Oct.numG_lt r0 4 HI.out.small; omega
  have hF : ∀ a, ((fun i => tk (Oct.manyL (Oct.aftL r0 4) 8) (32 + i)) a).length = 32 := fun a => tk_length _ _
  go_enter Tryd.func59, Tryd.ntmps59
  go_upto_region 2 with fail
  have hB : Below w.heap.size w ((w.alloc (.cells Tryd.zeroCells99 99)).alloc (.cells Tryd.zeroCells99 99)) := ((Below.refl _ _).alloc (Nat.le_refl _) _).alloc (by simp) _
  have QV : Hid (Blk ((w.alloc (.cells Tryd.zeroCells99 99)).alloc (.cells Tryd.zeroCells99 99)) w.heap.size 99 zsig) := Lib.hid (by
    have h := (Blk.new w 99 zsig).alloc (.cells Tryd.zeroCells99 99)
    rw [zsig_arr9] at h
    exact h)
  have ZV : Hid (Blk ((w.alloc (.cells Tryd.zeroCells99 99)).alloc (.cells Tryd.zeroCells99 99)) (w.heap.size + 1) 99 zsig) := Lib.hid (by
    have h := Blk.new (w.alloc (.cells Tryd.zeroCells99 99)) 99 zsig
    rw [zsig_arr9, World.size_alloc] at h
    exact h)
  have RV := Lib.hid (HI.out.below hB)
  have GV : Hid (w.grownBy ((w.alloc (.cells Tryd.zeroCells99 99)).alloc (.cells Tryd.zeroCells99 99)) (some g)) := Lib.hid (Oct.Below.grownBy hB _)
  clear hB
  generalize (w.alloc (.cells Tryd.zeroCells99 99)).alloc (.cells Tryd.zeroCells99 99) = V at QV ZV RV GV ⊢
  go_wp2_with fail
  refine (refnum_R 4 (by omega) (by omega) g A c l r0 e0 V RV hl).mono ?_
  rintro e U1 ⟨rfl, hi1, hg1⟩
  have Q1 := Lib.hid (QV.out.grown hg1 (fun e => by injection e with e; omega))
  have Z1 := Lib.hid (ZV.out.grown hg1 (fun e => by injection e with e; omega))
  have R1 := Lib.hid hi1
  have G1 := Lib.hid (GV.out.trans hg1)
  clear hi1 hg1 QV ZV RV GV
  obtain ⟨key, hkey⟩ : ∃ q, Oct.numG r0 4 = q := ⟨_, rfl⟩
  have ck := Z1.out.cell 1024
  have fk := Z1.out.frozen 1024
  unfold zsig at ck
  rw [rsg_key _ _ _ List.length_replicate] at ck
  rw [hkey] at hlt4 ⊢
  go_upto_region 3 with fail
  have hO : U1.grownBy (U1.setCell ⟨(w.heap.size + 1), 1024, none⟩ (.int .u32 (key : Int))) (some (w.heap.size + 1)) := only_setCell (only_refl _ _) (.inl rfl) _
  have Z2 : Hid (Blk (U1.setCell ⟨(w.heap.size + 1), 1024, none⟩ (.int .u32 (key : Int))) (w.heap.size + 1) 99 (rsg zS key (.slice none 0 0))) := Lib.hid (by
    have h := Z1.out.set_ 1024 (.int .u32 (key : Int))
    rw [zsig_key] at h
    exact h)
  have Q2 := Lib.hid (Q1.out.grown hO (fun e => by injection e with e; omega))
  have R2 := Lib.hid (R1.out.far hO (by omega))
  have G2 : Hid (w.grownBy _ (some g)) := Lib.hid (grown_new' G1.out hO (fun q hq => by injection hq with hq; omega))
  clear hO ck fk Q1 Z1 R1 G1
  generalize U1.setCell ⟨(w.heap.size + 1), 1024, none⟩ (.int .u32 (key : Int)) = U2 at Z2 Q2 R2 G2 ⊢
  go_wp2_with fail
  refine (refmany_R 8 (by omega) g A c l _ _ U2 R2 hl).mono ?_
  rintro e U3 ⟨rfl, hi1, hg1⟩
  have Q3 := Lib.hid (Q2.out.grown hg1 (fun e => by injection e with e; omega))
  have Z3 := Lib.hid (Z2.out.grown hg1 (fun e => by injection e with e; omega))
  have R3 := Lib.hid (refR_Z hi1)
  have G3 := Lib.hid (G2.out.trans hg1)
  have hm8 := manyV_le (Oct.aftL r0 4) 8
  clear hi1 hg1 Q2 Z2 R2 G2
  obtain ⟨m, hmm⟩ : ∃ q, Oct.manyV (Oct.aftL r0 4) 8 = q := ⟨_, rfl⟩
  obtain ⟨l2, hl2⟩ : ∃ q, Oct.manyL (Oct.aftL r0 4) 8 = q := ⟨_, rfl⟩
  obtain ⟨e2, he2⟩ : ∃ q, Oct.manyE (Oct.aftL r0 4) (Oct.aftE r0 e0 4) 8 = q := ⟨_, rfl⟩
  rw [hl2, he2] at R3
  rw [hl2] at hF
  rw [hmm] at hm8 ⊢
  have hm8i : (m : Int) ≤ 8 := by omega
  go_wp2_with fail
  refine (rtakeZ_any g A c l l2 e2 U3 R3 hl).mono ?_
  rintro e U4 ⟨rfl, hi1, hg1⟩
  have Q4 := Lib.hid (Q3.out.grown hg1 (fun e => by injection e with e; omega))
  have Z4 := Lib.hid (Z3.out.grown hg1 (fun e => by injection e with e; omega))
  have R4 := Lib.hid hi1
  have G4 := Lib.hid (G3.out.trans hg1)
  clear hi1 hg1 Q3 Z3 R3 G3
  have HTH : Hid (U4.there (w.heap.size + 1) 0 (w8 (takeN l2)).length) := Lib.hid (Z4.out.there _ _ (by rw [w8_length, takeN_length, rsg_length _ _ _ zS_length]; omega))
  have HI7 : Hid ((Tryd.prog.info? 51).map (·.size) = some (w8 (takeN l2)).length) := Lib.hid (by rw [w8_length, takeN_length]; exact info51)
  go_upto_region 5 with (first | (refine wpList_put_mid rfl 51 (.tmp 14) (.tmp 13) rfl (w.heap.size + 1) 0 (w8 (takeN l2)) rfl rfl HTH.out HI7.out (w8_one _) ?_))
  have hO : U4.grownBy (U4.setCells (w.heap.size + 1) 0 (w8 (takeN l2))) (some (w.heap.size + 1)) := only_cells _ _ _
  have Z5 : Hid (Blk (U4.setCells (w.heap.size + 1) 0 (w8 (takeN l2))) (w.heap.size + 1) 99 (rsg (takeN l2) key (.slice none 0 0))) := Lib.hid (Blk.setMid [.int .u32 (key : Int), .slice none 0 0] (w8 (takeN l2)) U4 [] (w8 zS) (by rw [w8_length, w8_length, takeN_length, zS_length]) Z4.out)
  have Q5 := Lib.hid (Q4.out.grown hO (fun e => by injection e with e; omega))
  have R5 := Lib.hid (R4.out.far hO (by omega))
  have G5 : Hid (w.grownBy _ (some g)) := Lib.hid (grown_new' G4.out hO (fun q hq => by injection hq with hq; omega))
  clear hO Q4 Z4 R4 G4 HTH HI7
  generalize U4.setCells (w.heap.size + 1) 0 (w8 (takeN l2)) = U5 at Z5 Q5 R5 G5 ⊢
  go_wp2_with fail
  go_loopw [5] (fun i wr => ∃ (k : Nat) (v : Value), k ≤ m ∧ i = .int .i64 k ∧ Hid (wr.ownsRow w.heap.size 29 32 v k (w8 (rows (fun i => tk l2 (32 + i)) k))) ∧ Hid (Blk wr (w.heap.size + 1) 99 (rsg (takeN l2) key (v))) ∧ Hid (Blk wr w.heap.size 99 zsig) ∧ Hid (RefZ wr g A c l l2 e2 (32 + k)) ∧ Hid (w.grownBy wr (some g))) (fun i _ => m - (intOf i).toNat)
  case atStart => exact ⟨0, .slice none 0 0, Nat.zero_le _, rfl, Lib.hid (World.ownsRow_nil _ _ _ _), Z5, Q5, R5, G5⟩
  case round =>
    clear Z5 Q5 R5 G5
    obtain ⟨k, v, hk, rfl, Or', Zr, Qr, Rr, Gr⟩ := hrel
    by_cases hlt : k < m
    · have k1 : (k : Int) < (m : Int) := by omega
      have k2 : (k : Int) ≤ 8 := by omega
      have OOr := Or'
      go_upto_region 8 with fail
      have hBz : Below wr.heap.size wr wr.drew := below_drewN (Below.refl _ _) 1
      have QX0 : Hid (Blk wr.drew w.heap.size 99 zsig) := Lib.hid (Qr.out.below hBz Qr.out.lt)
      have ZX0 : Hid (Blk wr.drew (w.heap.size + 1) 99 (rsg (takeN l2) key (v))) := Lib.hid (Zr.out.below hBz Zr.out.lt)
      have OX0 : Hid (wr.drew.ownsRow w.heap.size 29 32 v k (w8 (rows (fun i => tk l2 (32 + i)) k))) := Lib.hid (own_keepB OOr.out hBz)
      have RX0 : Hid (RefZ wr.drew g A c l l2 e2 (32 + k)) := Lib.hid (Rr.out.below hBz)
      have GX0 : Hid (w.grownBy wr.drew (some g)) := Lib.hid (Oct.only_below Gr.out hBz)
      clear hBz
      refine wp_region_held_drew (S := fun w' => True) (by kernel_rfl) (trivial) (fun hHeld => ?_)
      generalize wr.drew = X0 at hHeld QX0 ZX0 OX0 RX0 GX0 ⊢
      refine wpAnyH_take (i := 0) (v := .pointer (some ⟨(w.heap.size + 1), 1025, none⟩)) rfl (by kernel_rfl) (by kernel_rfl) (by kernel_rfl) (fun _ _ _ h => h) (Or.inl ⟨by rfl, by intro w' h; go_simp⟩) hHeld ?_
      show wpAnyH _ _ _ _ _ _ _ (Act.put _ (some 20) _) _
      simp only [Act.put, List.setIfInBounds_toArray, List.set_cons_zero, List.set_cons_succ]
      refine wpAnyH_take (i := 2) (v := .pointer (some ⟨g, 0, none⟩)) rfl (by kernel_rfl) (by kernel_rfl) (by kernel_rfl) (fun _ _ _ h => h) (Or.inl ⟨by rfl, fun w _ => by rfl⟩) hHeld ?_
      show wpAnyH _ _ _ _ _ _ _ (Act.put _ (some 22) _) _
      simp only [Act.put, List.setIfInBounds_toArray, List.set_cons_zero, List.set_cons_succ]
      refine wpAnyH_ready (rs := [1, 3]) (by kernel_rfl) (by simp) ?_
      refine AllReadyH.cons rfl (fun K hK => ?_) (AllReadyH.cons rfl (fun K hK => ?_) AllReadyH.nil)
      · refine Kt.step_val rfl v X0 (by have q9 := ZX0.out.cell 1025; rw [rsg_way _ _ _ (takeN_length l2)] at q9; go_simp) ?_
        refine hK.out _ _ (trivial) (fun hHeld => ?_)
        clear hK K
        show wpAnyH _ _ _ _ _ _ _ (Act.put _ (some 21) _) _
        simp only [Act.put, List.setIfInBounds_toArray, List.set_cons_zero, List.set_cons_succ]
        refine wpAnyH_ready (rs := [3]) (by kernel_rfl) (by simp) ?_
        refine AllReadyH.cons rfl (fun K hK => ?_) AllReadyH.nil
        refine step_call rfl 73 #[.tmp 22] #[66] rfl #[.pointer (some ⟨g, 0, none⟩)] (by simp [Act.eval]) (by go_simp) (refsumZ_any g A c l l2 e2 (32 + k) X0 RX0 hl) ?_
        rintro e X2 ⟨rfl, hi, hg⟩
        have RX2 : Hid (RefZ X2 g A c l l2 e2 (32 + (k + 1))) := Lib.hid hi
        have QX2 := Lib.hid (QX0.out.grown hg (fun e => by injection e with e; omega))
        have ZX2 := Lib.hid (ZX0.out.grown hg (fun e => by injection e with e; omega))
        have OX2 := Lib.hid (own_far OX0.out hg (fun e => by have h5 := (OX0.out.lt _ e).1; omega))
        have GX2 := Lib.hid (GX0.out.trans hg)
        clear hi hg QX0 RX0 GX0 OX0 ZX0
        refine ⟨_, rfl, ?_⟩
        refine hK.out _ _ (trivial) (fun hHeld => ?_)
        clear hK K
        show wpAnyH _ _ _ _ _ _ _ (Act.put _ (some 23) _) _
        simp only [Act.put, List.setIfInBounds_toArray, List.set_cons_zero, List.set_cons_succ]
        refine wpAnyH_ready (rs := [4]) (by kernel_rfl) (by simp) ?_
        refine AllReadyH.cons rfl (fun K hK => ?_) AllReadyH.nil
        refine Kt.step_lay rfl 22 1 #[(0, .tmp 23)] rfl #[(0, .agg (w8 (tk l2 (32 + k))).toArray)] (by simp [Act.eval]) (.slice (some ⟨X2.heap.size, 0, none⟩) 1 1) (X2.alloc (.cells (w8 (tk l2 (32 + k))).toArray 29)) (lay22 (tk l2 (32 + k)) (tk_length _ _) X2) ?_
        have hB : Below X2.heap.size X2 (X2.alloc (.cells (w8 (tk l2 (32 + k))).toArray 29)) := (Below.refl _ _).alloc (Nat.le_refl _) _
        have hL := Blk.new X2 29 (w8 (tk l2 (32 + k)))
        generalize X2.alloc (.cells (w8 (tk l2 (32 + k))).toArray 29) = X3 at hB hL ⊢
        generalize X2.heap.size = gl at hL ⊢
        have QX3 : Hid (Blk X3 w.heap.size 99 zsig) := Lib.hid (QX2.out.below hB QX2.out.lt)
        have ZX3 : Hid (Blk X3 (w.heap.size + 1) 99 (rsg (takeN l2) key (v))) := Lib.hid (ZX2.out.below hB ZX2.out.lt)
        have OX3 : Hid (X3.ownsRow w.heap.size 29 32 v k (w8 (rows (fun i => tk l2 (32 + i)) k))) := Lib.hid (own_keepB OX2.out hB)
        have RX3 : Hid (RefZ X3 g A c l l2 e2 (32 + (k + 1))) := Lib.hid (RX2.out.below hB)
        have GX3 : Hid (w.grownBy X3 (some g)) := Lib.hid (Oct.only_below GX2.out hB)
        have LX3 : Hid (Blk X3 gl 29 (w8 (tk l2 (32 + k)))) := Lib.hid (hL)
        clear QX2 ZX2 OX2 RX2 GX2 hB hL
        refine hK.out _ _ (trivial) (fun hHeld => ?_)
        clear hK K
        show wpAnyH _ _ _ _ _ _ _ (Act.put _ (some 24) _) _
        simp only [Act.put, List.setIfInBounds_toArray, List.set_cons_zero, List.set_cons_succ]
        refine wpAnyH_ready (rs := [5]) (by kernel_rfl) (by simp) ?_
        refine AllReadyH.cons rfl (fun K hK => ?_) AllReadyH.nil
        refine Kt.step_own rfl (.tmp 21) (.tmp 24) 22 rfl w.heap.size 29 i0 (.agg zsum) 32 32 Tryd.underlying22 hi hz0 hz1 hz2 rfl (by decide) v k (w8 (rows (fun i => tk l2 (32 + i)) k)) rfl OX3.out ⟨gl, 0, none⟩ 1 1 (w8 (tk l2 (32 + k))) rfl (by rw [w8_length, tk_length]) (Kt.news_of LX3.out) (w8_one _) (by unfold maxLen; omega) (by omega) (GX3.out.size) ?_
        intro v2 X4 hOwn hGrow hBl hNil
        have OX4 : Hid (X4.ownsRow w.heap.size 29 32 v2 (k + 1) (w8 (rows (fun i => tk l2 (32 + i)) (k + 1)))) := Lib.hid (by rw [rows_succ, ← w8_append]; exact hOwn)
        have hne : ∀ x t (cs : List Value), t ≠ 29 → Blk X3 x t cs → Blk X4 x t cs := fun x t cs ht hx => hx.grown hGrow (by
          intro e
          obtain ⟨cs2, hb⟩ := own_block OX3.out e.symm
          exact Blk.ne_ hx hb ht rfl)
        have ZX4 := Lib.hid (hne _ _ _ (by decide) ZX3.out)
        have QX4 := Lib.hid (hne _ _ _ (by decide) QX3.out)
        have GX4 : Hid (w.grownBy X4 (some g)) := Lib.hid (grown_new' GX3.out hGrow (fun q hq => (OX3.out.lt q hq).1))
        have RX4 : Hid (RefZ X4 g A c l l2 e2 (32 + (k + 1))) := Lib.hid (RX3.out.farO hGrow (fun q hq => by have h5 := (OX3.out.lt q hq).1; omega))
        obtain ⟨gx, cx, hv2⟩ : ∃ gx cx, v2 = .slice (some ⟨gx, 0, none⟩) (k + 1) cx := by
          rcases OX4.out.2 with ⟨_, h0⟩ | ⟨gx, cx, _, h1, _⟩
          · omega
          · exact ⟨gx, cx, h1⟩
        subst hv2
        clear hOwn hGrow hBl hNil hne OX3 ZX3 QX3 RX3 GX3 LX3
        refine hK.out _ _ (trivial) (fun hHeld => ?_)
        clear hK K
        show wpAnyH _ _ _ _ _ _ _ (Act.put _ (some 25) _) _
        simp only [Act.put, List.setIfInBounds_toArray, List.set_cons_zero, List.set_cons_succ]
        refine wpAnyH_take (i := 6) (v := .pointer (some ⟨(w.heap.size + 1), 1025, none⟩)) rfl (by kernel_rfl) (by kernel_rfl) (by kernel_rfl) (fun _ _ _ h => h) (Or.inl ⟨by rfl, by intro w' h; go_simp⟩) hHeld ?_
        show wpAnyH _ _ _ _ _ _ _ (Act.put _ (some 26) _) _
        simp only [Act.put, List.setIfInBounds_toArray, List.set_cons_zero, List.set_cons_succ]
        refine wpAnyH_ready (rs := [7]) (by kernel_rfl) (by simp) ?_
        refine AllReadyH.cons rfl (fun K hK => ?_) AllReadyH.nil
        refine step_store1x rfl 22 (.tmp 26) (.tmp 25) rfl (w.heap.size + 1) 1025 (.slice (some ⟨gx, 0, none⟩) (k + 1) cx) rfl rfl (ZX4.out.there 1025 1 (by rw [rsg_length _ _ _ (takeN_length l2)]; omega)) (by kernel_rfl) rfl rfl ?_
        have hOs : X4.grownBy (X4.setCell ⟨(w.heap.size + 1), 1025, none⟩ (.slice (some ⟨gx, 0, none⟩) (k + 1) cx)) (some (w.heap.size + 1)) := only_setCell (only_refl _ _) (.inl rfl) _
        have ZX5 : Hid (Blk (X4.setCell ⟨(w.heap.size + 1), 1025, none⟩ (.slice (some ⟨gx, 0, none⟩) (k + 1) cx)) (w.heap.size + 1) 99 (rsg (takeN l2) key (.slice (some ⟨gx, 0, none⟩) (k + 1) cx))) := Lib.hid (by
          have h := ZX4.out.set_ 1025 (.slice (some ⟨gx, 0, none⟩) (k + 1) cx)
          rw [rsg_set _ _ _ _ (takeN_length l2)] at h
          exact h)
        have QX5 := Lib.hid (QX4.out.grown hOs (fun e => by injection e with e; omega))
        have OX5 := Lib.hid (OX4.out.kept hOs (by
          right
          intro e
          obtain ⟨cs2, hb⟩ := own_block OX4.out e
          exact Blk.ne_ ZX4.out hb (by decide) rfl))
        have GX5 := Lib.hid (grown_new' GX4.out hOs (fun q hq => by injection hq with hq; omega))
        have RX5 := Lib.hid (RX4.out.far hOs (by omega))
        clear hOs OX4 ZX4 QX4 RX4 GX4
        generalize X4.setCell ⟨(w.heap.size + 1), 1025, none⟩ (.slice (some ⟨gx, 0, none⟩) (k + 1) cx) = X5 at ZX5 QX5 OX5 RX5 GX5 ⊢
        refine hK.out _ _ (trivial) (fun hHeld => ?_)
        clear hK K
        show wpAnyH _ _ _ _ _ _ _ (Act.put _ none _) _
        simp only [Act.put]
        refine wpAnyH_done (by kernel_rfl) ?_ _
        clear hHeld
        go_wp2
        go_roundw
        case rel => exact ⟨k + 1, _, by omega, by go_num, OX5, ZX5, QX5, RX5, GX5⟩
        case measure => simp [intOf]; omega
      · refine step_call rfl 73 #[.tmp 22] #[66] rfl #[.pointer (some ⟨g, 0, none⟩)] (by simp [Act.eval]) (by go_simp) (refsumZ_any g A c l l2 e2 (32 + k) X0 RX0 hl) ?_
        rintro e X1 ⟨rfl, hi, hg⟩
        have RX1 : Hid (RefZ X1 g A c l l2 e2 (32 + (k + 1))) := Lib.hid hi
        have QX1 := Lib.hid (QX0.out.grown hg (fun e => by injection e with e; omega))
        have ZX1 := Lib.hid (ZX0.out.grown hg (fun e => by injection e with e; omega))
        have OX1 := Lib.hid (own_far OX0.out hg (fun e => by have h5 := (OX0.out.lt _ e).1; omega))
        have GX1 := Lib.hid (GX0.out.trans hg)
        clear hi hg QX0 RX0 GX0 OX0 ZX0
        refine ⟨_, rfl, ?_⟩
        refine hK.out _ _ (trivial) (fun hHeld => ?_)
        clear hK K
        show wpAnyH _ _ _ _ _ _ _ (Act.put _ (some 23) _) _
        simp only [Act.put, List.setIfInBounds_toArray, List.set_cons_zero, List.set_cons_succ]
        refine wpAnyH_ready (rs := [1, 4]) (by kernel_rfl) (by simp) ?_
        refine AllReadyH.cons rfl (fun K hK => ?_) (AllReadyH.cons rfl (fun K hK => ?_) AllReadyH.nil)
        · refine Kt.step_val rfl v X1 (by have q9 := ZX1.out.cell 1025; rw [rsg_way _ _ _ (takeN_length l2)] at q9; go_simp) ?_
          refine hK.out _ _ (trivial) (fun hHeld => ?_)
          clear hK K
          show wpAnyH _ _ _ _ _ _ _ (Act.put _ (some 21) _) _
          simp only [Act.put, List.setIfInBounds_toArray, List.set_cons_zero, List.set_cons_succ]
          refine wpAnyH_ready (rs := [4]) (by kernel_rfl) (by simp) ?_
          refine AllReadyH.cons rfl (fun K hK => ?_) AllReadyH.nil
          refine Kt.step_lay rfl 22 1 #[(0, .tmp 23)] rfl #[(0, .agg (w8 (tk l2 (32 + k))).toArray)] (by simp [Act.eval]) (.slice (some ⟨X1.heap.size, 0, none⟩) 1 1) (X1.alloc (.cells (w8 (tk l2 (32 + k))).toArray 29)) (lay22 (tk l2 (32 + k)) (tk_length _ _) X1) ?_
          have hB : Below X1.heap.size X1 (X1.alloc (.cells (w8 (tk l2 (32 + k))).toArray 29)) := (Below.refl _ _).alloc (Nat.le_refl _) _
          have hL := Blk.new X1 29 (w8 (tk l2 (32 + k)))
          generalize X1.alloc (.cells (w8 (tk l2 (32 + k))).toArray 29) = X3 at hB hL ⊢
          generalize X1.heap.size = gl at hL ⊢
          have QX3 : Hid (Blk X3 w.heap.size 99 zsig) := Lib.hid (QX1.out.below hB QX1.out.lt)
          have ZX3 : Hid (Blk X3 (w.heap.size + 1) 99 (rsg (takeN l2) key (v))) := Lib.hid (ZX1.out.below hB ZX1.out.lt)
          have OX3 : Hid (X3.ownsRow w.heap.size 29 32 v k (w8 (rows (fun i => tk l2 (32 + i)) k))) := Lib.hid (own_keepB OX1.out hB)
          have RX3 : Hid (RefZ X3 g A c l l2 e2 (32 + (k + 1))) := Lib.hid (RX1.out.below hB)
          have GX3 : Hid (w.grownBy X3 (some g)) := Lib.hid (Oct.only_below GX1.out hB)
          have LX3 : Hid (Blk X3 gl 29 (w8 (tk l2 (32 + k)))) := Lib.hid (hL)
          clear QX1 ZX1 OX1 RX1 GX1 hB hL
          refine hK.out _ _ (trivial) (fun hHeld => ?_)
          clear hK K
          show wpAnyH _ _ _ _ _ _ _ (Act.put _ (some 24) _) _
          simp only [Act.put, List.setIfInBounds_toArray, List.set_cons_zero, List.set_cons_succ]
          refine wpAnyH_ready (rs := [5]) (by kernel_rfl) (by simp) ?_
          refine AllReadyH.cons rfl (fun K hK => ?_) AllReadyH.nil
          refine Kt.step_own rfl (.tmp 21) (.tmp 24) 22 rfl w.heap.size 29 i0 (.agg zsum) 32 32 Tryd.underlying22 hi hz0 hz1 hz2 rfl (by decide) v k (w8 (rows (fun i => tk l2 (32 + i)) k)) rfl OX3.out ⟨gl, 0, none⟩ 1 1 (w8 (tk l2 (32 + k))) rfl (by rw [w8_length, tk_length]) (Kt.news_of LX3.out) (w8_one _) (by unfold maxLen; omega) (by omega) (GX3.out.size) ?_
          intro v2 X4 hOwn hGrow hBl hNil
          have OX4 : Hid (X4.ownsRow w.heap.size 29 32 v2 (k + 1) (w8 (rows (fun i => tk l2 (32 + i)) (k + 1)))) := Lib.hid (by rw [rows_succ, ← w8_append]; exact hOwn)
          have hne : ∀ x t (cs : List Value), t ≠ 29 → Blk X3 x t cs → Blk X4 x t cs := fun x t cs ht hx => hx.grown hGrow (by
            intro e
            obtain ⟨cs2, hb⟩ := own_block OX3.out e.symm
            exact Blk.ne_ hx hb ht rfl)
          have ZX4 := Lib.hid (hne _ _ _ (by decide) ZX3.out)
          have QX4 := Lib.hid (hne _ _ _ (by decide) QX3.out)
          have GX4 : Hid (w.grownBy X4 (some g)) := Lib.hid (grown_new' GX3.out hGrow (fun q hq => (OX3.out.lt q hq).1))
          have RX4 : Hid (RefZ X4 g A c l l2 e2 (32 + (k + 1))) := Lib.hid (RX3.out.farO hGrow (fun q hq => by have h5 := (OX3.out.lt q hq).1; omega))
          obtain ⟨gx, cx, hv2⟩ : ∃ gx cx, v2 = .slice (some ⟨gx, 0, none⟩) (k + 1) cx := by
            rcases OX4.out.2 with ⟨_, h0⟩ | ⟨gx, cx, _, h1, _⟩
            · omega
            · exact ⟨gx, cx, h1⟩
          subst hv2
          clear hOwn hGrow hBl hNil hne OX3 ZX3 QX3 RX3 GX3 LX3
          refine hK.out _ _ (trivial) (fun hHeld => ?_)
          clear hK K
          show wpAnyH _ _ _ _ _ _ _ (Act.put _ (some 25) _) _
          simp only [Act.put, List.setIfInBounds_toArray, List.set_cons_zero, List.set_cons_succ]
          refine wpAnyH_take (i := 6) (v := .pointer (some ⟨(w.heap.size + 1), 1025, none⟩)) rfl (by kernel_rfl) (by kernel_rfl) (by kernel_rfl) (fun _ _ _ h => h) (Or.inl ⟨by rfl, by intro w' h; go_simp⟩) hHeld ?_
          show wpAnyH _ _ _ _ _ _ _ (Act.put _ (some 26) _) _
          simp only [Act.put, List.setIfInBounds_toArray, List.set_cons_zero, List.set_cons_succ]
          refine wpAnyH_ready (rs := [7]) (by kernel_rfl) (by simp) ?_
          refine AllReadyH.cons rfl (fun K hK => ?_) AllReadyH.nil
          refine step_store1x rfl 22 (.tmp 26) (.tmp 25) rfl (w.heap.size + 1) 1025 (.slice (some ⟨gx, 0, none⟩) (k + 1) cx) rfl rfl (ZX4.out.there 1025 1 (by rw [rsg_length _ _ _ (takeN_length l2)]; omega)) (by kernel_rfl) rfl rfl ?_
          have hOs : X4.grownBy (X4.setCell ⟨(w.heap.size + 1), 1025, none⟩ (.slice (some ⟨gx, 0, none⟩) (k + 1) cx)) (some (w.heap.size + 1)) := only_setCell (only_refl _ _) (.inl rfl) _
          have ZX5 : Hid (Blk (X4.setCell ⟨(w.heap.size + 1), 1025, none⟩ (.slice (some ⟨gx, 0, none⟩) (k + 1) cx)) (w.heap.size + 1) 99 (rsg (takeN l2) key (.slice (some ⟨gx, 0, none⟩) (k + 1) cx))) := Lib.hid (by
            have h := ZX4.out.set_ 1025 (.slice (some ⟨gx, 0, none⟩) (k + 1) cx)
            rw [rsg_set _ _ _ _ (takeN_length l2)] at h
            exact h)
          have QX5 := Lib.hid (QX4.out.grown hOs (fun e => by injection e with e; omega))
          have OX5 := Lib.hid (OX4.out.kept hOs (by
            right
            intro e
            obtain ⟨cs2, hb⟩ := own_block OX4.out e
            exact Blk.ne_ ZX4.out hb (by decide) rfl))
          have GX5 := Lib.hid (grown_new' GX4.out hOs (fun q hq => by injection hq with hq; omega))
          have RX5 := Lib.hid (RX4.out.far hOs (by omega))
          clear hOs OX4 ZX4 QX4 RX4 GX4
          generalize X4.setCell ⟨(w.heap.size + 1), 1025, none⟩ (.slice (some ⟨gx, 0, none⟩) (k + 1) cx) = X5 at ZX5 QX5 OX5 RX5 GX5 ⊢
          refine hK.out _ _ (trivial) (fun hHeld => ?_)
          clear hK K
          show wpAnyH _ _ _ _ _ _ _ (Act.put _ none _) _
          simp only [Act.put]
          refine wpAnyH_done (by kernel_rfl) ?_ _
          clear hHeld
          go_wp2
          go_roundw
          case rel => exact ⟨k + 1, _, by omega, by go_num, OX5, ZX5, QX5, RX5, GX5⟩
          case measure => simp [intOf]; omega
        · refine Kt.step_lay rfl 22 1 #[(0, .tmp 23)] rfl #[(0, .agg (w8 (tk l2 (32 + k))).toArray)] (by simp [Act.eval]) (.slice (some ⟨X1.heap.size, 0, none⟩) 1 1) (X1.alloc (.cells (w8 (tk l2 (32 + k))).toArray 29)) (lay22 (tk l2 (32 + k)) (tk_length _ _) X1) ?_
          have hB : Below X1.heap.size X1 (X1.alloc (.cells (w8 (tk l2 (32 + k))).toArray 29)) := (Below.refl _ _).alloc (Nat.le_refl _) _
          have hL := Blk.new X1 29 (w8 (tk l2 (32 + k)))
          generalize X1.alloc (.cells (w8 (tk l2 (32 + k))).toArray 29) = X2 at hB hL ⊢
          generalize X1.heap.size = gl at hL ⊢
          have QX2 : Hid (Blk X2 w.heap.size 99 zsig) := Lib.hid (QX1.out.below hB QX1.out.lt)
          have ZX2 : Hid (Blk X2 (w.heap.size + 1) 99 (rsg (takeN l2) key (v))) := Lib.hid (ZX1.out.below hB ZX1.out.lt)
          have OX2 : Hid (X2.ownsRow w.heap.size 29 32 v k (w8 (rows (fun i => tk l2 (32 + i)) k))) := Lib.hid (own_keepB OX1.out hB)
          have RX2 : Hid (RefZ X2 g A c l l2 e2 (32 + (k + 1))) := Lib.hid (RX1.out.below hB)
          have GX2 : Hid (w.grownBy X2 (some g)) := Lib.hid (Oct.only_below GX1.out hB)
          have LX2 : Hid (Blk X2 gl 29 (w8 (tk l2 (32 + k)))) := Lib.hid (hL)
          clear QX1 ZX1 OX1 RX1 GX1 hB hL
          refine hK.out _ _ (trivial) (fun hHeld => ?_)
          clear hK K
          show wpAnyH _ _ _ _ _ _ _ (Act.put _ (some 24) _) _
          simp only [Act.put, List.setIfInBounds_toArray, List.set_cons_zero, List.set_cons_succ]
          refine wpAnyH_ready (rs := [1]) (by kernel_rfl) (by simp) ?_
          refine AllReadyH.cons rfl (fun K hK => ?_) AllReadyH.nil
          refine Kt.step_val rfl v X2 (by have q9 := ZX2.out.cell 1025; rw [rsg_way _ _ _ (takeN_length l2)] at q9; go_simp) ?_
          refine hK.out _ _ (trivial) (fun hHeld => ?_)
          clear hK K
          show wpAnyH _ _ _ _ _ _ _ (Act.put _ (some 21) _) _
          simp only [Act.put, List.setIfInBounds_toArray, List.set_cons_zero, List.set_cons_succ]
          refine wpAnyH_ready (rs := [5]) (by kernel_rfl) (by simp) ?_
          refine AllReadyH.cons rfl (fun K hK => ?_) AllReadyH.nil
          refine Kt.step_own rfl (.tmp 21) (.tmp 24) 22 rfl w.heap.size 29 i0 (.agg zsum) 32 32 Tryd.underlying22 hi hz0 hz1 hz2 rfl (by decide) v k (w8 (rows (fun i => tk l2 (32 + i)) k)) rfl OX2.out ⟨gl, 0, none⟩ 1 1 (w8 (tk l2 (32 + k))) rfl (by rw [w8_length, tk_length]) (Kt.news_of LX2.out) (w8_one _) (by unfold maxLen; omega) (by omega) (GX2.out.size) ?_
          intro v2 X4 hOwn hGrow hBl hNil
          have OX4 : Hid (X4.ownsRow w.heap.size 29 32 v2 (k + 1) (w8 (rows (fun i => tk l2 (32 + i)) (k + 1)))) := Lib.hid (by rw [rows_succ, ← w8_append]; exact hOwn)
          have hne : ∀ x t (cs : List Value), t ≠ 29 → Blk X2 x t cs → Blk X4 x t cs := fun x t cs ht hx => hx.grown hGrow (by
            intro e
            obtain ⟨cs2, hb⟩ := own_block OX2.out e.symm
            exact Blk.ne_ hx hb ht rfl)
          have ZX4 := Lib.hid (hne _ _ _ (by decide) ZX2.out)
          have QX4 := Lib.hid (hne _ _ _ (by decide) QX2.out)
          have GX4 : Hid (w.grownBy X4 (some g)) := Lib.hid (grown_new' GX2.out hGrow (fun q hq => (OX2.out.lt q hq).1))
          have RX4 : Hid (RefZ X4 g A c l l2 e2 (32 + (k + 1))) := Lib.hid (RX2.out.farO hGrow (fun q hq => by have h5 := (OX2.out.lt q hq).1; omega))
          obtain ⟨gx, cx, hv2⟩ : ∃ gx cx, v2 = .slice (some ⟨gx, 0, none⟩) (k + 1) cx := by
            rcases OX4.out.2 with ⟨_, h0⟩ | ⟨gx, cx, _, h1, _⟩
            · omega
            · exact ⟨gx, cx, h1⟩
          subst hv2
          clear hOwn hGrow hBl hNil hne OX2 ZX2 QX2 RX2 GX2 LX2
          refine hK.out _ _ (trivial) (fun hHeld => ?_)
          clear hK K
          show wpAnyH _ _ _ _ _ _ _ (Act.put _ (some 25) _) _
          simp only [Act.put, List.setIfInBounds_toArray, List.set_cons_zero, List.set_cons_succ]
          refine wpAnyH_take (i := 6) (v := .pointer (some ⟨(w.heap.size + 1), 1025, none⟩)) rfl (by kernel_rfl) (by kernel_rfl) (by kernel_rfl) (fun _ _ _ h => h) (Or.inl ⟨by rfl, by intro w' h; go_simp⟩) hHeld ?_
          show wpAnyH _ _ _ _ _ _ _ (Act.put _ (some 26) _) _
          simp only [Act.put, List.setIfInBounds_toArray, List.set_cons_zero, List.set_cons_succ]
          refine wpAnyH_ready (rs := [7]) (by kernel_rfl) (by simp) ?_
          refine AllReadyH.cons rfl (fun K hK => ?_) AllReadyH.nil
          refine step_store1x rfl 22 (.tmp 26) (.tmp 25) rfl (w.heap.size + 1) 1025 (.slice (some ⟨gx, 0, none⟩) (k + 1) cx) rfl rfl (ZX4.out.there 1025 1 (by rw [rsg_length _ _ _ (takeN_length l2)]; omega)) (by kernel_rfl) rfl rfl ?_
          have hOs : X4.grownBy (X4.setCell ⟨(w.heap.size + 1), 1025, none⟩ (.slice (some ⟨gx, 0, none⟩) (k + 1) cx)) (some (w.heap.size + 1)) := only_setCell (only_refl _ _) (.inl rfl) _
          have ZX5 : Hid (Blk (X4.setCell ⟨(w.heap.size + 1), 1025, none⟩ (.slice (some ⟨gx, 0, none⟩) (k + 1) cx)) (w.heap.size + 1) 99 (rsg (takeN l2) key (.slice (some ⟨gx, 0, none⟩) (k + 1) cx))) := Lib.hid (by
            have h := ZX4.out.set_ 1025 (.slice (some ⟨gx, 0, none⟩) (k + 1) cx)
            rw [rsg_set _ _ _ _ (takeN_length l2)] at h
            exact h)
          have QX5 := Lib.hid (QX4.out.grown hOs (fun e => by injection e with e; omega))
          have OX5 := Lib.hid (OX4.out.kept hOs (by
            right
            intro e
            obtain ⟨cs2, hb⟩ := own_block OX4.out e
            exact Blk.ne_ ZX4.out hb (by decide) rfl))
          have GX5 := Lib.hid (grown_new' GX4.out hOs (fun q hq => by injection hq with hq; omega))
          have RX5 := Lib.hid (RX4.out.far hOs (by omega))
          clear hOs OX4 ZX4 QX4 RX4 GX4
          generalize X4.setCell ⟨(w.heap.size + 1), 1025, none⟩ (.slice (some ⟨gx, 0, none⟩) (k + 1) cx) = X5 at ZX5 QX5 OX5 RX5 GX5 ⊢
          refine hK.out _ _ (trivial) (fun hHeld => ?_)
          clear hK K
          show wpAnyH _ _ _ _ _ _ _ (Act.put _ none _) _
          simp only [Act.put]
          refine wpAnyH_done (by kernel_rfl) ?_ _
          clear hHeld
          go_wp2
          go_roundw
          case rel => exact ⟨k + 1, _, by omega, by go_num, OX5, ZX5, QX5, RX5, GX5⟩
          case measure => simp [intOf]; omega
    · obtain rfl : k = m := by omega
      have HZ2 := Lib.hid Rr.out.2
      obtain ⟨e3, he3⟩ : ∃ q, Oct.aftE l2 e2 (32 * (32 + k)) = q := ⟨_, rfl⟩
      obtain ⟨l3, hl3⟩ : ∃ q, Oct.aftL l2 (32 * (32 + k)) = q := ⟨_, rfl⟩
      rw [he3, hl3] at HZ2
      have HEN := Lib.hid (And.intro he3 hl3)
      clear he3 hl3
      obtain ⟨pl, hpl⟩ : ∃ a, RefG wr g A c l a e3 := by obtain ⟨a, h1, _⟩ := HZ2.out; exact ⟨a, h1⟩
      have c2 : wr.cell? ⟨g, 2, none⟩ = some (.int .i64 (e3 : Int)) := hpl.blk.cell 2
      clear hpl
      have HV1 : Hid (∃ a n c, v = .slice a n c) := Lib.hid (by
        rcases Or'.out.2 with ⟨h1, _⟩ | ⟨g, cap, cur, h1, _⟩
        · exact ⟨none, 0, 0, h1⟩
        · exact ⟨_, _, _, h1⟩)
      have HVO : Hid (v.oneCell' = true) := Lib.hid (by
        obtain ⟨a, n, c, h1⟩ := HV1.out
        rw [h1]; rfl)
      by_cases hz : e3 = 0
      · have hzi : (e3 : Int) = 0 := by omega
        have HP9 := Lib.hid (sig_put9 (takeN l2) key v (takeN_length l2) HVO.out)
        have HRZ := Lib.hid Zr.out.all
        have hO : wr.grownBy (wr.setRow w.heap.size (rsg (takeN l2) key (v)).toArray) (some w.heap.size) := only_setRow (only_refl _ _) _
        have HI9 : Hid (RefR (wr.setRow w.heap.size (rsg (takeN l2) key (v)).toArray) g A c l l3 e3) := Lib.hid (HZ2.out.far hO (by omega))
        have HG9 : Hid (w.grownBy (wr.setRow w.heap.size (rsg (takeN l2) key (v)).toArray) (some g)) := Lib.hid (grown_new' Gr.out hO (fun b hb => by injection hb with hb; omega))
        have HW9 : Hid (WayR (wr.setRow w.heap.size (rsg (takeN l2) key (v)).toArray) v (fun i => tk l2 (32 + i)) k) := Lib.hid (wayR_own (f := (fun i => tk l2 (32 + i))) hF (Or'.out.kept hO (by
          right
          intro e
          obtain ⟨cs', hb⟩ := own_block Or'.out e
          exact Blk.ne_ Qr.out hb (by decide) rfl)))
        rw [hzi] at c2
        go_wp2_with (first | (refine wpList_load_mid rfl 99 (.tmp 3) rfl (w.heap.size + 1) 0 rfl (rsg (takeN l2) key (v)) _ HRZ.out Tryd.underlying99 rfl (by rw [rsg_length _ _ _ (takeN_length l2)]; exact info99) ?_) | (refine wpList_store_row rfl 99 (.tmp 2) (.tmp 33) rfl w.heap.size (rsg (takeN l2) key (v)).toArray rfl rfl 99 _ Qr.out HP9.out.1 HP9.out.2.1 HP9.out.2.2 ?_))
        exact bodyPost_ret (v := .agg (rsg (takeN l2) key (v)).toArray) (results_cell_row Tryd.results59 _ _ w.heap.size 99 (rsg (takeN l2) key (v)).toArray (0, 0) _ rfl (Qr.out.setRow _) Tryd.underlying99 rfl HP9.out.1) rfl (refPost_ok hkey hmm hl2 he2 HEN.out.1 HEN.out.2 hz HI9.out HG9.out HW9.out)
      · have hzi : ¬ ((e3 : Int) = 0) := by omega
        have hO : wr.grownBy (wr.setRow w.heap.size zsig.toArray) (some w.heap.size) := only_setRow (only_refl _ _) _
        have HI9 : Hid (RefR (wr.setRow w.heap.size zsig.toArray) g A c l l3 e3) := Lib.hid (HZ2.out.far hO (by omega))
        have HG9 : Hid (w.grownBy (wr.setRow w.heap.size zsig.toArray) (some g)) := Lib.hid (grown_new' Gr.out hO (fun b hb => by injection hb with hb; omega))
        go_wp2_with (first | (refine wpList_store_row rfl 99 (.tmp 2) (.tmp 32) rfl w.heap.size zsig.toArray rfl (congrArg Value.agg zsig_arr9.symm) 99 _ Qr.out HSZ.out rfl HOZ.out ?_))
        exact bodyPost_ret (v := .agg zsig.toArray) (results_cell_row Tryd.results59 _ _ w.heap.size 99 zsig.toArray (0, 0) _ rfl (Qr.out.setRow _) Tryd.underlying99 rfl HSZ.out) rfl (refPost_no hkey hmm hl2 he2 HEN.out.1 HEN.out.2 hz HI9.out HG9.out)
end Go.Proofs.YtkonokjhpddbfaaDoor
