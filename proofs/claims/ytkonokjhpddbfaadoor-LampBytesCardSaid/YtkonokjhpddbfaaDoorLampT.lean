/-
  lamp.Take (function 31): place by place 32 bytes off an In, or zeros where they aren't there whole; of older memory only the In is written.
-/
import Derived.Test.YtkonokjhpddbfaaDoorLampD
import Derived.Test.YtkonokjhpddbfaaDoorOctShort
namespace Go.Proofs.YtkonokjhpddbfaaDoor
open Go.RowKit
set_option linter.unusedVariables false

theorem slice32_16 (g : Nat) (W : World) : (Instr.sliceAt 36 (.pointer (some ⟨g, 0, none⟩)) (some (.int .i64 16)) none none).run Tryd.prog W = .ok (.slice (some ⟨g, 16, none⟩) 16 16) W := by
  have h := slice_sum g 4 (by omega) W
  exact h
/-- What is taken for a place. -/
def tk (l : List Nat) (k : Nat) : List Nat := if 32 * (k + 1) ≤ l.length then (l.drop (32 * k)).take 32 else List.replicate 32 0
def tf (l : List Nat) (k : Nat) : List Nat := (tk l k).take 16
def tg (l : List Nat) (k : Nat) : List Nat := (tk l k).drop 16
def takeN (l : List Nat) : List Nat := rows (tf l) 32 ++ rows (tg l) 32
theorem tk_length (l : List Nat) (k : Nat) : (tk l k).length = 32 := by
  unfold tk
  split
  · simp; omega
  · simp
theorem tf_length (l : List Nat) (k : Nat) : (tf l k).length = 16 := by simp [tf, tk_length]
theorem tg_length (l : List Nat) (k : Nat) : (tg l k).length = 16 := by simp [tg, tk_length]
theorem takeN_length (l : List Nat) : (takeN l).length = 1024 := by
  unfold takeN
  rw [List.length_append, rows_length (tf_length l), rows_length (tg_length l)]
/-- An In behind k sums. -/
def InK (w : World) (g : Nat) (l : List Nat) (k : Nat) : Prop := if 32 * k ≤ l.length then Oct.InAt w g (ints (l.drop (32 * k))) else Oct.InBad w g
theorem InK.below {w w' : World} {g : Nat} {l : List Nat} {k : Nat} (h : InK w g l k) (hb : Below w.heap.size w w') : InK w' g l k := by
  unfold InK at h ⊢
  split at h
  · rename_i hc; rw [if_pos hc]; exact h.below hb
  · rename_i hc; rw [if_neg hc]; exact h.below hb
theorem InK.far {w w' : World} {g b : Nat} {l : List Nat} {k : Nat} (h : InK w g l k) (hg : w.grownBy w' (some b)) (hb : g < b) : InK w' g l k := by
  unfold InK at h ⊢
  split at h
  · rename_i hc; rw [if_pos hc]; exact h.far hg hb
  · rename_i hc; rw [if_neg hc]; exact h.far hg (by omega)
theorem InK.lt {w : World} {g : Nat} {l : List Nat} {k : Nat} (h : InK w g l k) : g < w.heap.size := by
  unfold InK at h
  split at h
  · exact h.lt
  · exact Oct.Bk.lt h
theorem zeros_w8 : Oct.zeros = (w8 (List.replicate 32 0)).toArray := by kernel_rfl
theorem insum_any (g : Nat) (l : List Nat) (k : Nat) (w : World) (HI : Hid (InK w g l k)) : Calls Tryd.prog 72 #[.pointer (some ⟨g, 0, none⟩)] w fun r w' => r = .returned (.agg (w8 (tk l k)).toArray) ∧ InK w' g l (k + 1) ∧ w.grownBy w' (some g) := by
  have hi := HI.out
  unfold InK at hi
  by_cases h1 : 32 * (k + 1) ≤ l.length
  · rw [if_pos (by omega)] at hi
    have e : ints (l.drop (32 * k)) = ints ((l.drop (32 * k)).take 32) ++ ints (l.drop (32 * (k + 1))) := by
      unfold ints
      rw [← List.map_append, show 32 * (k + 1) = 32 * k + 32 by omega, ← List.drop_drop, List.take_append_drop]
    rw [e] at hi
    refine (Oct.sum_in g _ _ w (Lib.hid hi) (Lib.hid (by simp [ints]; omega))).mono ?_
    rintro r w' ⟨rfl, h2, h3⟩
    refine ⟨?_, ?_, h3⟩
    · rw [byt_ints]
      unfold tk
      rw [if_pos h1]
    · unfold InK
      rw [if_pos h1]
      exact h2
  · have hs : Oct.InSh w g := by
      split at hi
      · exact .inr ⟨_, by simp [ints]; omega, hi⟩
      · exact .inl hi
    refine (Oct.sum_sh g w (Lib.hid hs)).mono ?_
    rintro r w' ⟨rfl, h2, h3⟩
    refine ⟨?_, ?_, h3⟩
    · rw [zeros_w8]
      unfold tk
      rw [if_neg h1]
    · unfold InK
      rw [if_neg h1]
      exact h2
theorem splice8 (pre old post x : List Nat) (o : Nat) (ho : pre.length = o) (hl : old.length = x.length) : splice (w8 (pre ++ (old ++ post))) o (w8 x) = w8 (pre ++ (x ++ post)) := by
  unfold splice
  rw [← w8_append, ← w8_append, ← w8_append, ← w8_append, List.take_append_of_le_length (by rw [w8_length]; omega), List.take_of_length_le (by rw [w8_length]; omega)]
  congr 2
  rw [← ho, w8_length, ← hl, List.drop_append, List.drop_eq_nil_of_le (by rw [w8_length]; omega), List.nil_append, w8_length, show pre.length + old.length - pre.length = old.length by omega, List.drop_append, List.drop_eq_nil_of_le (by rw [w8_length]; omega), List.nil_append, w8_length, Nat.sub_self, List.drop_zero]
theorem sigC_sOpen (f g : Nat → List Nat) (hf : ∀ a, (f a).length = 16) (k j : Nat) (hk : k < 32) : splice (w8 (sigC f g k j)) (k * 16) (w8 (f k)) = w8 (sigC f g (k + 1) j) := by
  have hl := rows_length hf k
  have e : sigC f g k j = rows f k ++ (List.replicate 16 0 ++ (List.replicate (512 - 16 * (k + 1)) 0 ++ (rows g j ++ List.replicate (512 - 16 * j) 0))) := by
    unfold sigC
    rw [zeros_cut (512 - 16 * k) 16 (by omega), show 512 - 16 * k - 16 = 512 - 16 * (k + 1) by omega]
    simp only [List.append_assoc]
  rw [e, splice8 _ _ _ _ _ (by omega) (by rw [hf k]; simp)]
  unfold sigC
  rw [rows_succ, List.append_assoc]
theorem sigC_sOther (f g : Nat → List Nat) (hf : ∀ a, (f a).length = 16) (hg : ∀ a, (g a).length = 16) (i k : Nat) (hk : k < 32) (hi : i ≤ 32) : splice (w8 (sigC f g i k)) (512 + k * 16) (w8 (g k)) = w8 (sigC f g i (k + 1)) := by
  have hl := rows_length hf i
  have hm := rows_length hg k
  have e : sigC f g i k = (rows f i ++ (List.replicate (512 - 16 * i) 0 ++ rows g k)) ++ (List.replicate 16 0 ++ List.replicate (512 - 16 * (k + 1)) 0) := by
    unfold sigC
    rw [zeros_cut (512 - 16 * k) 16 (by omega), show 512 - 16 * k - 16 = 512 - 16 * (k + 1) by omega]
    simp only [List.append_assoc]
  rw [e, splice8 _ _ _ _ _ (by simp only [List.length_append, List.length_replicate, hl, hm]; omega) (by rw [hg k]; simp)]
  unfold sigC
  rw [rows_succ]
  simp only [List.append_assoc]
theorem src_part {w : World} {g : Nat} {t : TypeId} {S : List Nat} (h : Blk w g t (w8 S)) (o n : Nat) : ∀ j v, (w8 ((S.drop o).take n))[j]? = some v → w.cell? ((⟨g, o, none⟩ : Addr).add j) = some v := by
  intro j v hv
  rw [Addr.add_mid, h.cell, ← hv, ← w8_take, ← w8_drop, List.getElem?_take]
  have h1 := (List.getElem?_eq_some_iff.1 hv).1
  rw [w8_length, List.length_take] at h1
  rw [if_pos (by omega), List.getElem?_drop]

set_option maxRecDepth 100000 in
set_option maxHeartbeats 1000000 in
theorem take_lamp (g : Nat) (l : List Nat) (w : World) (HI : Hid (InK w g l 0)) : Calls Tryd.prog 31 #[.pointer (some ⟨g, 0, none⟩)] w fun r w' => r = .returned (.agg (w8 (takeN l)).toArray) ∧ InK w' g l 32 ∧ w.grownBy w' (some g) := by
  have hgw := HI.out.lt
  go_enter Tryd.func31, Tryd.ntmps31
  go_upto_region 2 with fail
  have HR : Hid (Blk ((w.alloc (.cells Tryd.zeroCells56 56)).alloc (.cells Tryd.zeroCells56 56)) w.heap.size 56 (w8 (List.replicate 1024 0))) := Lib.hid (by
    have h := (Blk.new w 56 (w8 (List.replicate 1024 0))).alloc (.cells Tryd.zeroCells56 56)
    rw [zc56] at h
    exact h)
  have HC : Hid (Blk ((w.alloc (.cells Tryd.zeroCells56 56)).alloc (.cells Tryd.zeroCells56 56)) (w.heap.size + 1) 56 (w8 (List.replicate 1024 0))) := Lib.hid (by
    have h := Blk.new (w.alloc (.cells Tryd.zeroCells56 56)) 56 (w8 (List.replicate 1024 0))
    rw [zc56, World.size_alloc] at h
    exact h)
  have HW : Hid (Below w.heap.size w ((w.alloc (.cells Tryd.zeroCells56 56)).alloc (.cells Tryd.zeroCells56 56))) := Lib.hid (((Below.refl _ _).alloc (Nat.le_refl _) _).alloc (by simp) _)
  generalize ((w.alloc (.cells Tryd.zeroCells56 56)).alloc (.cells Tryd.zeroCells56 56)) = V at HR HC HW ⊢
  have HIV := Lib.hid (HI.out.below HW.out)
  have HGV : Hid (w.grownBy V (some g)) := Lib.hid (Oct.Below.grownBy HW.out _)
  have HTF : Hid (∀ a, (tf l a).length = 16) := Lib.hid (tf_length l)
  have HTG : Hid (∀ a, (tg l a).length = 16) := Lib.hid (tg_length l)
  rw [← sigC_zero (tf l) (tg l)] at HC
  go_wp2_with fail
  go_loopw [7, 4, 5, 6] (fun i _ _ _ wr => ∃ (k : Nat), k ≤ 32 ∧ i = .int .i64 k ∧ Hid (Blk wr w.heap.size 56 (w8 (List.replicate 1024 0))) ∧ Hid (Blk wr (w.heap.size + 1) 56 (w8 (sigC (tf l) (tg l) k k))) ∧ Hid (InK wr g l k) ∧ Hid (w.grownBy wr (some g))) (fun i _ _ _ _ => 32 - (intOf i).toNat)
  case atStart => exact ⟨0, Nat.zero_le _, rfl, HR, HC, HIV, HGV⟩
  case round =>
    clear HR HC HIV HGV HW
    obtain ⟨k, hk, rfl, HR, HC, HIK, HG⟩ := hrel
    by_cases hlt : k < 32
    · have k1 : (k : Int) < 32 := by omega
      go_wp2_with fail
      refine (insum_any g l k wr HIK).mono ?_
      rintro e X4 ⟨rfl, hi4, hg4⟩
      have HG4 := Lib.hid (HG.out.trans hg4)
      have HI4 := Lib.hid hi4
      have HR4 := Lib.hid (HR.out.grown hg4 (by intro he; injection he; omega))
      have HC4 := Lib.hid (HC.out.grown hg4 (by intro he; injection he; omega))
      clear hi4 hg4 HR HC HIK HG
      have HLA := Lib.hid (heap_alloc_last X4 (.cells zsum 36))
      have HS4 : Hid ((Tryd.prog.info? 36).map (·.size) = some (w8 (tk l k)).toArray.size) := Lib.hid (by rw [List.size_toArray, w8_length, tk_length]; exact info36)
      have HZ4 : Hid (zsum.size = (w8 (tk l k)).toArray.size) := Lib.hid (Eq.trans (b := 32) rfl (by rw [List.size_toArray, w8_length, tk_length]))
      have HO4 := Lib.hid (all_oneCell_toArray (w8_one (tk l k)))
      go_upto_region 6 with (first | (refine wpList_store_row rfl 36 (.tmp 5) (.tmp 11) rfl X4.heap.size (w8 (tk l k)).toArray rfl rfl 36 _ HLA.out HS4.out HZ4.out HO4.out ?_; rw [World.setRow_alloc_new]))
      have HB5 : Hid (Blk (X4.alloc (.cells (w8 (tk l k)).toArray 36)) X4.heap.size 36 (w8 (tk l k))) := Lib.hid (by
        have h := Blk.new X4 36 (w8 (tk l k))
        exact h)
      have HX5 : Hid (Below X4.heap.size X4 (X4.alloc (.cells (w8 (tk l k)).toArray 36))) := Lib.hid ((Below.refl _ _).alloc (Nat.le_refl _) _)
      generalize (X4.alloc (.cells (w8 (tk l k)).toArray 36)) = X5 at HB5 HX5 ⊢
      have HG5 := Lib.hid (Oct.only_below HG4.out HX5.out)
      have HI5 := Lib.hid (HI4.out.below HX5.out)
      have HR5 := Lib.hid (HR4.out.below HX5.out HR4.out.lt)
      have HC5 := Lib.hid (HC4.out.below HX5.out HC4.out.lt)
      have hgB : w.heap.size + 1 < X4.heap.size := HC4.out.lt
      generalize X4.heap.size = gB at HB5 hgB ⊢
      have HLf : Hid ((w8 (tf l k)).length = 16) := Lib.hid (by rw [w8_length, tf_length])
      have HLg : Hid ((w8 (tg l k)).length = 16) := Lib.hid (by rw [w8_length, tg_length])
      have HSa : Hid (∀ (X : World), Blk X gB 36 (w8 (tk l k)) → ∀ j v, (w8 (tf l k))[j]? = some v → X.drew.cell? ((⟨gB, 0, none⟩ : Addr).add j) = some v) := Lib.hid fun X h => by
        have h1 := src_part (w := X.drew) h 0 16
        rw [List.drop_zero] at h1
        exact h1
      have HSb : Hid (∀ (X : World), Blk X gB 36 (w8 (tk l k)) → ∀ j v, (w8 (tg l k))[j]? = some v → X.drew.cell? ((⟨gB, 16, none⟩ : Addr).add j) = some v) := Lib.hid fun X h => by
        have h1 := src_part (w := X.drew) h 16 16
        rw [List.take_of_length_le (by rw [List.length_drop, tk_length]; omega)] at h1
        exact h1
      have HFa : Hid (k * 16 + 16 ≤ (w8 (sigC (tf l) (tg l) k k)).length) := Lib.hid (by rw [w8_length, sigC_length _ _ HTF.out HTG.out k k (by omega) (by omega)]; omega)
      have HFb : Hid (512 + k * 16 + 16 ≤ (w8 (sigC (tf l) (tg l) (k + 1) k)).length) := Lib.hid (by rw [w8_length, sigC_length _ _ HTF.out HTG.out (k + 1) k (by omega) (by omega)]; omega)
      clear HLA HS4 HZ4 HO4 HG4 HI4 HR4 HC4 HX5
      have hsa := slice16 (w.heap.size + 1) (k * 16)
      have hsb := slice32 gB 0
      refine wp_region_held_drew (S := fun w' => True) (by kernel_rfl) trivial (fun hHeld => ?_)
      refine wpAnyH_take (i := 0) (v := .int .i64 (k : Int)) rfl (by kernel_rfl) (by kernel_rfl) (by kernel_rfl) (fun _ _ _ h => h) (Or.inl ⟨by rfl, fun w _ => by rfl⟩) hHeld ?_
      show wpAnyH _ _ _ _ _ _ _ (Act.put _ (some 12) _) _
      simp only [Act.put, List.setIfInBounds_toArray, List.set_cons_zero, List.set_cons_succ]
      refine wpAnyH_take (i := 1) (v := .pointer (some ⟨w.heap.size + 1, 0, none⟩)) rfl (by kernel_rfl) (by kernel_rfl) (by kernel_rfl) (fun _ _ _ h => h) (Or.inl ⟨by rfl, by intro w' _; go_simp⟩) hHeld ?_
      show wpAnyH _ _ _ _ _ _ _ (Act.put _ (some 13) _) _
      simp only [Act.put, List.setIfInBounds_toArray, List.set_cons_zero, List.set_cons_succ]
      refine wpAnyH_take (i := 2) (v := .pointer (some ⟨w.heap.size + 1, k * 16, none⟩)) rfl (by kernel_rfl) (by kernel_rfl) (by kernel_rfl) (fun _ _ _ h => h) (Or.inl ⟨by rfl, by intro w' _; go_simp⟩) hHeld ?_
      show wpAnyH _ _ _ _ _ _ _ (Act.put _ (some 14) _) _
      simp only [Act.put, List.setIfInBounds_toArray, List.set_cons_zero, List.set_cons_succ]
      refine wpAnyH_take (i := 3) (v := .slice (some ⟨w.heap.size + 1, k * 16, none⟩) 16 16) rfl (by kernel_rfl) (by kernel_rfl) (by kernel_rfl) (fun _ _ _ h => h) (Or.inl ⟨by rfl, by intro w' _; go_simp⟩) hHeld ?_
      show wpAnyH _ _ _ _ _ _ _ (Act.put _ (some 15) _) _
      simp only [Act.put, List.setIfInBounds_toArray, List.set_cons_zero, List.set_cons_succ]
      refine wpAnyH_take (i := 4) (v := .slice (some ⟨gB, 0, none⟩) 32 32) rfl (by kernel_rfl) (by kernel_rfl) (by kernel_rfl) (fun _ _ _ h => h) (Or.inl ⟨by rfl, by intro w' _; go_simp⟩) hHeld ?_
      show wpAnyH _ _ _ _ _ _ _ (Act.put _ (some 16) _) _
      simp only [Act.put, List.setIfInBounds_toArray, List.set_cons_zero, List.set_cons_succ]
      refine wpAnyH_ready (rs := [5]) (by kernel_rfl) (by simp) ?_
      refine AllReadyH.cons rfl (fun K hK => ?_) AllReadyH.nil
      refine step_copy_at rfl (.tmp 15) (.tmp 16) 30 30 rfl 5 Tryd.underlying30 info5 (w.heap.size + 1) (k * 16) 16 16 ⟨gB, 0, none⟩ 32 32 rfl rfl (w8 (sigC (tf l) (tg l) k k)) 56 (HC5.out.drewN 1) (w8 (tf l k)) 16 HLf.out rfl (HSa.out _ HB5.out) HFa.out (w8_one _) ?_
      intro X6 HC6 HG6
      refine hK.out _ _ (trivial) (fun hHeld => ?_)
      clear hK K
      show wpAnyH _ _ _ _ _ _ _ (Act.put _ (some 17) _) _
      simp only [Act.put, List.setIfInBounds_toArray, List.set_cons_zero, List.set_cons_succ]
      refine wpAnyH_take (i := 6) (v := .int .i64 16) rfl (by kernel_rfl) (by kernel_rfl) (by kernel_rfl) (fun _ _ _ h => h) (Or.inl ⟨by rfl, fun w _ => by rfl⟩) hHeld ?_
      show wpAnyH _ _ _ _ _ _ _ (Act.put _ (some 6) _) _
      simp only [Act.put, List.setIfInBounds_toArray, List.set_cons_zero, List.set_cons_succ]
      refine wpAnyH_done (by kernel_rfl) ?_ _
      have HC6s : Hid (Blk X6 (w.heap.size + 1) 56 (w8 (sigC (tf l) (tg l) (k + 1) k))) := Lib.hid (by rw [← sigC_sOpen _ _ HTF.out k k hlt]; exact HC6.out)
      have HG6w := Lib.hid (Oct.grown_new (only_drewN HG5.out 1) HG6.out (by omega))
      have HI6 := Lib.hid (InK.far (HI5.out.below (below_drewN (Below.refl _ _) 1)) HG6.out (by omega))
      have HR6 := Lib.hid (Blk.grown (HR5.out.drewN 1) HG6.out (by intro he; injection he; omega))
      have HB6 := Lib.hid (Blk.grown (HB5.out.drewN 1) HG6.out (by intro he; injection he; omega))
      clear HG5 HI5 HR5 HC5 HB5 HC6 HG6 hHeld hsa hsb
      go_upto_region 7 with fail
      have hsa := slice16 (w.heap.size + 1) (512 + k * 16)
      have hsb := slice32_16 gB
      refine wp_region_held_drew (S := fun w' => True) (by kernel_rfl) trivial (fun hHeld => ?_)
      refine wpAnyH_take (i := 0) (v := .int .i64 (k : Int)) rfl (by kernel_rfl) (by kernel_rfl) (by kernel_rfl) (fun _ _ _ h => h) (Or.inl ⟨by rfl, fun w _ => by rfl⟩) hHeld ?_
      show wpAnyH _ _ _ _ _ _ _ (Act.put _ (some 18) _) _
      simp only [Act.put, List.setIfInBounds_toArray, List.set_cons_zero, List.set_cons_succ]
      refine wpAnyH_take (i := 1) (v := .pointer (some ⟨w.heap.size + 1, 512, none⟩)) rfl (by kernel_rfl) (by kernel_rfl) (by kernel_rfl) (fun _ _ _ h => h) (Or.inl ⟨by rfl, by intro w' _; go_simp⟩) hHeld ?_
      show wpAnyH _ _ _ _ _ _ _ (Act.put _ (some 19) _) _
      simp only [Act.put, List.setIfInBounds_toArray, List.set_cons_zero, List.set_cons_succ]
      refine wpAnyH_take (i := 2) (v := .pointer (some ⟨w.heap.size + 1, 512 + k * 16, none⟩)) rfl (by kernel_rfl) (by kernel_rfl) (by kernel_rfl) (fun _ _ _ h => h) (Or.inl ⟨by rfl, by intro w' _; go_simp⟩) hHeld ?_
      show wpAnyH _ _ _ _ _ _ _ (Act.put _ (some 20) _) _
      simp only [Act.put, List.setIfInBounds_toArray, List.set_cons_zero, List.set_cons_succ]
      refine wpAnyH_take (i := 3) (v := .slice (some ⟨w.heap.size + 1, 512 + k * 16, none⟩) 16 16) rfl (by kernel_rfl) (by kernel_rfl) (by kernel_rfl) (fun _ _ _ h => h) (Or.inl ⟨by rfl, by intro w' _; go_simp⟩) hHeld ?_
      show wpAnyH _ _ _ _ _ _ _ (Act.put _ (some 21) _) _
      simp only [Act.put, List.setIfInBounds_toArray, List.set_cons_zero, List.set_cons_succ]
      refine wpAnyH_take (i := 4) (v := .int .i64 16) rfl (by kernel_rfl) (by kernel_rfl) (by kernel_rfl) (fun _ _ _ h => h) (Or.inl ⟨by rfl, fun w _ => by rfl⟩) hHeld ?_
      show wpAnyH _ _ _ _ _ _ _ (Act.put _ (some 22) _) _
      simp only [Act.put, List.setIfInBounds_toArray, List.set_cons_zero, List.set_cons_succ]
      refine wpAnyH_take (i := 5) (v := .slice (some ⟨gB, 16, none⟩) 16 16) rfl (by kernel_rfl) (by kernel_rfl) (by kernel_rfl) (fun _ _ _ h => h) (Or.inl ⟨by rfl, by intro w' _; go_simp⟩) hHeld ?_
      show wpAnyH _ _ _ _ _ _ _ (Act.put _ (some 23) _) _
      simp only [Act.put, List.setIfInBounds_toArray, List.set_cons_zero, List.set_cons_succ]
      refine wpAnyH_ready (rs := [6]) (by kernel_rfl) (by simp) ?_
      refine AllReadyH.cons rfl (fun K hK => ?_) AllReadyH.nil
      refine step_copy_at rfl (.tmp 21) (.tmp 23) 30 30 rfl 5 Tryd.underlying30 info5 (w.heap.size + 1) (512 + k * 16) 16 16 ⟨gB, 16, none⟩ 16 16 rfl rfl (w8 (sigC (tf l) (tg l) (k + 1) k)) 56 (HC6s.out.drewN 1) (w8 (tg l k)) 16 HLg.out rfl (HSb.out _ HB6.out) HFb.out (w8_one _) ?_
      intro X7 HC7 HG7
      refine hK.out _ _ (trivial) (fun hHeld => ?_)
      clear hK K
      show wpAnyH _ _ _ _ _ _ _ (Act.put _ (some 24) _) _
      simp only [Act.put, List.setIfInBounds_toArray, List.set_cons_zero, List.set_cons_succ]
      refine wpAnyH_done (by kernel_rfl) ?_ _
      have HC7s : Hid (Blk X7 (w.heap.size + 1) 56 (w8 (sigC (tf l) (tg l) (k + 1) (k + 1)))) := Lib.hid (by rw [← sigC_sOther _ _ HTF.out HTG.out (k + 1) k hlt (by omega)]; exact HC7.out)
      have HG7w := Lib.hid (Oct.grown_new (only_drewN HG6w.out 1) HG7.out (by omega))
      have HI7 := Lib.hid (InK.far (HI6.out.below (below_drewN (Below.refl _ _) 1)) HG7.out (by omega))
      have HR7 := Lib.hid (Blk.grown (HR6.out.drewN 1) HG7.out (by intro he; injection he; omega))
      clear HG6w HI6 HR6 HC6s HB6 HC7 HG7 hHeld hsa hsb
      go_wp2
      go_roundw
      case rel => exact ⟨k + 1, by omega, by go_num, HR7, HC7s, HI7, HG7w⟩
      case measure => simp [intOf]; omega
    · obtain rfl : k = 32 := by omega
      rw [sigC_end, show rows (tf l) 32 ++ rows (tg l) 32 = takeN l from rfl] at HC
      have HRG := Lib.hid HC.out.all
      have HS5 : Hid ((Tryd.prog.info? 56).map (·.size) = some (w8 (takeN l)).length) := Lib.hid (by rw [w8_length, takeN_length]; exact info56)
      have HS6 : Hid ((Tryd.prog.info? 56).map (·.size) = some (w8 (takeN l)).toArray.size) := Lib.hid (by rw [List.size_toArray, w8_length, takeN_length]; exact info56)
      have HZ6 : Hid ((w8 (List.replicate 1024 0)).toArray.size = (w8 (takeN l)).toArray.size) := Lib.hid (by rw [List.size_toArray, List.size_toArray, w8_length, w8_length, takeN_length]; simp)
      have HO6 := Lib.hid (all_oneCell_toArray (w8_one (takeN l)))
      go_wp2_with (first | (refine wpList_load_mid rfl 56 (.tmp 3) rfl (w.heap.size + 1) 0 rfl (w8 (takeN l)) _ HRG.out Tryd.underlying56 rfl HS5.out ?_) | (refine wpList_store_row rfl 56 (.tmp 2) (.tmp 26) rfl w.heap.size (w8 (takeN l)).toArray rfl rfl 56 _ HR.out HS6.out HZ6.out HO6.out ?_))
      exact bodyPost_ret (v := .agg (w8 (takeN l)).toArray) (results_cell_row Tryd.results31 _ _ w.heap.size 56 (w8 (takeN l)).toArray (0, 0) _ rfl (HR.out.setRow _) Tryd.underlying56 rfl HS6.out) rfl ⟨rfl, InK.far HIK.out (Oct.only_setRow _ _ _) hgw, Oct.grown_new HG.out (Oct.only_setRow _ _ _) (Nat.le_refl _)⟩
end Go.Proofs.YtkonokjhpddbfaaDoor
