/-
  An octet In that is bad already, whatever is wrong: next, Sum, Four, Many, Bad, Left; a lamp's Take off any In.
-/
import Derived.Test.YtkonokjhpddbfaaDoorRngBA
import Derived.Test.YtkonokjhpddbfaaDoorGG
namespace Go.Proofs.YtkonokjhpddbfaaDoor.Oct
open Go.RowKit
set_option linter.unusedVariables false

/-- An In that is bad, with the code e. -/
def InE (w : World) (g e : Nat) : Prop := Bk w g 130 [.slice none 0 0, .int .i64 (e : Int)]
theorem InE.below {w w' : World} {g e : Nat} (h : InE w g e) (hb : Below w.heap.size w w') : InE w' g e := Bk.below h hb (Bk.lt h)
theorem InE.lt {w : World} {g e : Nat} (h : InE w g e) : g < w.heap.size := Bk.lt h
theorem InE.far {w w' : World} {g b e : Nat} (h : InE w g e) (hg : w.grownBy w' (some b)) (hb : g ≠ b) : InE w' g e := Bk.grown h hg (by intro he; injection he; omega)
theorem fail_badE (e : Nat) (he : e ≠ 0) (f : Int) (g : Nat) (w : World) (HI : Hid (InE w g e)) : Calls Tryd.prog 103 #[.pointer (some ⟨g, 0, none⟩), .int .i64 f] w fun r w' => r = .returned (.tuple #[]) ∧ w = w' := by
  have c1 := Bk.cell HI.out 1
  have he2 : ¬ ((e : Int) = 0) := by omega
  go_enter Tryd.func103, Tryd.ntmps103
  go_wp2
  exact bodyPost_ret (v := .tuple #[]) (by simp [results, Tryd.results103, go_sem]) rfl ⟨rfl, rfl⟩
theorem next_badE (e : Nat) (he : e ≠ 0) (n : Int) (hn : 0 < n) (g : Nat) (w : World) (HI : Hid (InE w g e)) : Calls Tryd.prog 97 #[.pointer (some ⟨g, 0, none⟩), .int .i64 n] w fun r w' => r = .returned (.slice none 0 0) ∧ InE w' g e ∧ w.grownBy w' (some g) := by
  have c0 := Bk.cell HI.out 0
  go_enter Tryd.func97, Tryd.ntmps97
  go_wp2_with fail
  refine (fail_badE e he 9 g w HI).mono ?_
  rintro r w1 ⟨rfl, rfl⟩
  go_wp2
  go_ret
  exact ⟨rfl, HI.out, World.grownBy.refl _ _⟩
theorem bad_badE (e : Nat) (g : Nat) (w : World) (HI : Hid (InE w g e)) : Calls Tryd.prog 34 #[.pointer (some ⟨g, 0, none⟩)] w fun r w' => r = .returned (.int .i64 (e : Int)) ∧ w = w' := by
  have c1 := Bk.cell HI.out 1
  go_enter Tryd.func34, Tryd.ntmps34
  go_wp2
  go_ret
  exact ⟨rfl, rfl⟩
theorem left_badE (e : Nat) (g : Nat) (w : World) (HI : Hid (InE w g e)) : Calls Tryd.prog 35 #[.pointer (some ⟨g, 0, none⟩)] w fun r w' => r = .returned (.int .i64 0) ∧ w = w' := by
  have c0 := Bk.cell HI.out 0
  go_enter Tryd.func35, Tryd.ntmps35
  go_wp2
  go_ret
  exact ⟨rfl, rfl⟩
set_option maxRecDepth 100000 in
set_option maxHeartbeats 1000000 in
theorem sum_badE (ec : Nat) (he : ec ≠ 0) (g : Nat) (w : World) (HI : Hid (InE w g ec)) : Calls Tryd.prog 72 #[.pointer (some ⟨g, 0, none⟩)] w fun r w' => r = .returned (.agg zeros) ∧ InE w' g ec ∧ w.grownBy w' (some g) := by
  have hcp := copy_none
  have hsl := slice42 (w.heap.size + 1)
  go_enter Tryd.func72, Tryd.ntmps72
  go_wp2_with fail
  rw [zeros_lit]
  have H0 : Hid (Bk ((w.alloc (.cells zeros 36)).alloc (.cells zeros 36)) w.heap.size 36 zeros.toList) := Lib.hid ((Bk.new w 36 zeros.toList).alloc _)
  have H1 : Hid (Bk ((w.alloc (.cells zeros 36)).alloc (.cells zeros 36)) (w.heap.size + 1) 36 zeros.toList) := Lib.hid (by
    have h := Bk.new (w.alloc (.cells zeros 36)) 36 zeros.toList
    rw [World.size_alloc] at h
    exact h)
  have HB : Hid (Below w.heap.size w ((w.alloc (.cells zeros 36)).alloc (.cells zeros 36))) := Lib.hid (((Below.refl _ w).alloc (Nat.le_refl _) (.cells zeros 36)).alloc (by simp) (.cells zeros 36))
  generalize (w.alloc (.cells zeros 36)).alloc (.cells zeros 36) = W at H0 H1 HB ⊢
  have HG0 : Hid (w.grownBy W (some g)) := Lib.hid (Below.grownBy HB.out _)
  have HIW := Lib.hid (HI.out.below HB.out)
  have hgw := HI.out.lt
  have HNX : Hid (∀ X, InE X g ec → Calls Tryd.prog 97 #[.pointer (some ⟨g, 0, none⟩), .int .i64 32] X fun e w' => e = .returned (.slice none 0 0) ∧ InE w' g ec ∧ X.grownBy w' (some g)) := Lib.hid fun X hX => next_badE ec he 32 (by omega) g X (Lib.hid hX)
  go_region_held3 (fun w' => True) (trivial)
    (first
      | (go_at_call 97
         ((with_reducible refine (HNX.out _ ?_).mono ?_))
         · exact HIW.out.below (below_drewN (Below.refl _ _) 1)
         rintro e X1 ⟨rfl, hi1, hg1⟩))
  have HG1 : Hid (w.grownBy X1 (some g)) := Lib.hid ((only_drewN HG0.out 1).trans hg1)
  have H01 : Hid (Bk X1 w.heap.size 36 zeros.toList) := Lib.hid (Bk.grown (w := W.drew) H0.out hg1 (by intro he; injection he; omega))
  have H11 : Hid (Bk X1 (w.heap.size + 1) 36 zeros.toList) := Lib.hid (Bk.grown (w := W.drew) H1.out hg1 (by intro he; injection he; omega))
  have HBX := Lib.hid hi1
  clear hg1 hi1 hsl hcp
  have HRG := Lib.hid H11.out.all
  have HS5 : Hid ((Tryd.prog.info? 36).map (·.size) = some zeros.toList.length) := Lib.hid (by kernel_rfl)
  have HS6 : Hid ((Tryd.prog.info? 36).map (·.size) = some zeros.size) := Lib.hid (by kernel_rfl)
  have HO6 : Hid (zeros.all (·.oneCell') = true) := Lib.hid (by kernel_rfl)
  go_wp2_with (first | (refine wpList_load_mid rfl 36 (.tmp 3) rfl (w.heap.size + 1) 0 rfl zeros.toList _ HRG.out Tryd.underlying36 rfl HS5.out ?_) | (refine wpList_store_row rfl 36 (.tmp 2) (.tmp 8) rfl w.heap.size zeros rfl rfl 36 _ H01.out HS6.out rfl HO6.out ?_))
  exact bodyPost_ret (v := .agg zeros) (results_cell_row Tryd.results72 _ _ w.heap.size 36 zeros (0, 0) _ rfl (setRow_heap X1 w.heap.size _ zeros 36 _ H01.out) Tryd.underlying36 rfl HS6.out) rfl ⟨rfl, HBX.out.far (only_setRow _ _ _) (by omega), grown_new HG1.out (only_setRow _ _ _) (Nat.le_refl _)⟩
end Go.Proofs.YtkonokjhpddbfaaDoor.Oct
namespace Go.Proofs.YtkonokjhpddbfaaDoor
open Go.RowKit
/-- An In behind k sums, good or bad. -/
def InZ (w : World) (g : Nat) (l : List Nat) (e k : Nat) : Prop := if e = 0 then InK w g l k else Oct.InE w g e ∧ l = []
theorem InZ.below {w w' : World} {g e k : Nat} {l : List Nat} (h : InZ w g l e k) (hb : Below w.heap.size w w') : InZ w' g l e k := by
  unfold InZ at h ⊢
  split at h
  · rename_i hc; rw [if_pos hc]; exact h.below hb
  · rename_i hc; rw [if_neg hc]; exact ⟨h.1.below hb, h.2⟩
theorem InZ.far {w w' : World} {g e k b : Nat} {l : List Nat} (h : InZ w g l e k) (hg : w.grownBy w' (some b)) (hb : g < b) : InZ w' g l e k := by
  unfold InZ at h ⊢
  split at h
  · rename_i hc; rw [if_pos hc]; exact h.far hg hb
  · rename_i hc; rw [if_neg hc]; exact ⟨h.1.far hg (by omega), h.2⟩
theorem InZ.lt {w : World} {g e k : Nat} {l : List Nat} (h : InZ w g l e k) : g < w.heap.size := by
  unfold InZ at h
  split at h
  · exact h.lt
  · exact h.1.lt
theorem insumz_any (g : Nat) (l : List Nat) (e k : Nat) (w : World) (HI : Hid (InZ w g l e k)) : Calls Tryd.prog 72 #[.pointer (some ⟨g, 0, none⟩)] w fun r w' => r = .returned (.agg (w8 (tk l k)).toArray) ∧ InZ w' g l e (k + 1) ∧ w.grownBy w' (some g) := by
  have hi := HI.out
  unfold InZ at hi
  by_cases he : e = 0
  · rw [if_pos he] at hi
    refine (insum_any g l k w (Lib.hid hi)).mono ?_
    rintro r w' ⟨rfl, h2, h3⟩
    exact ⟨rfl, by unfold InZ; rw [if_pos he]; exact h2, h3⟩
  · rw [if_neg he] at hi
    refine (Oct.sum_badE e he g w (Lib.hid hi.1)).mono ?_
    rintro r w' ⟨rfl, h2, h3⟩
    refine ⟨?_, by unfold InZ; rw [if_neg he]; exact ⟨h2, hi.2⟩, h3⟩
    rw [zeros_w8, hi.2]
    unfold tk
    rw [if_neg (by simp)]
set_option maxRecDepth 100000 in
set_option maxHeartbeats 1000000 in
theorem take_lampz (g : Nat) (l : List Nat) (e0 : Nat) (w : World) (HI : Hid (InZ w g l e0 0)) : Calls Tryd.prog 31 #[.pointer (some ⟨g, 0, none⟩)] w fun r w' => r = .returned (.agg (w8 (takeN l)).toArray) ∧ InZ w' g l e0 32 ∧ w.grownBy w' (some g) := by
  have hgw := HI.out.lt
  go_enter Tryd.func31, Tryd.ntmps31
  go_upto_region 2 with fail
  have HR : Hid (Blk ((w.alloc (.cells Tryd.zeroCells56 56)).alloc (.cells Tryd.zeroCells56 56)) w.heap.size 56 (w8 (List.replicate 1024 0))) := Lib.hid (by
    have h := (Blk.new w 56 (w8 (List.replicate 1024 0))).alloc (.cells Tryd.zeroCells56 56)
    rw [zc56] at h
    exact h)
  have HC : Hid (Blk ((w.alloc (.cells Tryd.zeroCells56 56)).alloc (.cells Tryd.zeroCells56 56)) (w.heap.size + 1) 56 (w8 (List.replicate 1024 0))) := Lib.hid (by
    have h := Blk.new (w.alloc (.cells Tryd.zeroCells56 56)) 56 (w8 (List.replicate 1024 0))
    rw [zc56, World.size_alloc] at h
    exact h)
  have HW : Hid (Below w.heap.size w ((w.alloc (.cells Tryd.zeroCells56 56)).alloc (.cells Tryd.zeroCells56 56))) := Lib.hid (((Below.refl _ _).alloc (Nat.le_refl _) _).alloc (by simp) _)
  generalize ((w.alloc (.cells Tryd.zeroCells56 56)).alloc (.cells Tryd.zeroCells56 56)) = V at HR HC HW ⊢
  have HIV := Lib.hid (HI.out.below HW.out)
  have HGV : Hid (w.grownBy V (some g)) := Lib.hid (Oct.Below.grownBy HW.out _)
  have HTF : Hid (∀ a, (tf l a).length = 16) := Lib.hid (tf_length l)
  have HTG : Hid (∀ a, (tg l a).length = 16) := Lib.hid (tg_length l)
  rw [← sigC_zero (tf l) (tg l)] at HC
  go_wp2_with fail
  go_loopw [7, 4, 5, 6] (fun i _ _ _ wr => ∃ (k : Nat), k ≤ 32 ∧ i = .int .i64 k ∧ Hid (Blk wr w.heap.size 56 (w8 (List.replicate 1024 0))) ∧ Hid (Blk wr (w.heap.size + 1) 56 (w8 (sigC (tf l) (tg l) k k))) ∧ Hid (InZ wr g l e0 k) ∧ Hid (w.grownBy wr (some g))) (fun i _ _ _ _ => 32 - (intOf i).toNat)
  case atStart => exact ⟨0, Nat.zero_le _, rfl, HR, HC, HIV, HGV⟩
  case round =>
    clear HR HC HIV HGV HW
    obtain ⟨k, hk, rfl, HR, HC, HIK, HG⟩ := hrel
    by_cases hlt : k < 32
    · have k1 : (k : Int) < 32 := by omega
      go_wp2_with fail
      refine (insumz_any g l e0 k wr HIK).mono ?_
      rintro e X4 ⟨rfl, hi4, hg4⟩
      have HG4 := Lib.hid (HG.out.trans hg4)
      have HI4 := Lib.hid hi4
      have HR4 := Lib.hid (HR.out.grown hg4 (by intro he; injection he; omega))
      have HC4 := Lib.hid (HC.out.grown hg4 (by intro he; injection he; omega))
      clear hi4 hg4 HR HC HIK HG
      have HLA := Lib.hid (heap_alloc_last X4 (.cells zsum 36))
      have HS4 : Hid ((Tryd.prog.info? 36).map (·.size) = some (w8 (tk l k)).toArray.size) := Lib.hid (by rw [List.size_toArray, w8_length, tk_length]; exact info36)
      have HZ4 : Hid (zsum.size = (w8 (tk l k)).toArray.size) := Lib.hid (Eq.trans (b := 32) rfl (by rw [List.size_toArray, w8_length, tk_length]))
      have HO4 := Lib.hid (all_oneCell_toArray (w8_one (tk l k)))
      go_upto_region 6 with (first | (refine wpList_store_row rfl 36 (.tmp 5) (.tmp 11) rfl X4.heap.size (w8 (tk l k)).toArray rfl rfl 36 _ HLA.out HS4.out HZ4.out HO4.out ?_; rw [World.setRow_alloc_new]))
      have HB5 : Hid (Blk (X4.alloc (.cells (w8 (tk l k)).toArray 36)) X4.heap.size 36 (w8 (tk l k))) := Lib.hid (by
        have h := Blk.new X4 36 (w8 (tk l k))
        exact h)
      have HX5 : Hid (Below X4.heap.size X4 (X4.alloc (.cells (w8 (tk l k)).toArray 36))) := Lib.hid ((Below.refl _ _).alloc (Nat.le_refl _) _)
      generalize (X4.alloc (.cells (w8 (tk l k)).toArray 36)) = X5 at HB5 HX5 ⊢
      have HG5 := Lib.hid (Oct.only_below HG4.out HX5.out)
      have HI5 := Lib.hid (HI4.out.below HX5.out)
      have HR5 := Lib.hid (HR4.out.below HX5.out HR4.out.lt)
      have HC5 := Lib.hid (HC4.out.below HX5.out HC4.out.lt)
      have hgB : w.heap.size + 1 < X4.heap.size := HC4.out.lt
      generalize X4.heap.size = gB at HB5 hgB ⊢
      have HLf : Hid ((w8 (tf l k)).length = 16) := Lib.hid (by rw [w8_length, tf_length])
      have HLg : Hid ((w8 (tg l k)).length = 16) := Lib.hid (by rw [w8_length, tg_length])
      have HSa : Hid (∀ (X : World), Blk X gB 36 (w8 (tk l k)) → ∀ j v, (w8 (tf l k))[j]? = some v → X.drew.cell? ((⟨gB, 0, none⟩ : Addr).add j) = some v) := Lib.hid fun X h => by
        have h1 := src_part (w := X.drew) h 0 16
        rw [List.drop_zero] at h1
        exact h1
      have HSb : Hid (∀ (X : World), Blk X gB 36 (w8 (tk l k)) → ∀ j v, (w8 (tg l k))[j]? = some v → X.drew.cell? ((⟨gB, 16, none⟩ : Addr).add j) = some v) := Lib.hid fun X h => by
        have h1 := src_part (w := X.drew) h 16 16
        rw [List.take_of_length_le (by rw [List.length_drop, tk_length]; omega)] at h1
        exact h1
      have HFa : Hid (k * 16 + 16 ≤ (w8 (sigC (tf l) (tg l) k k)).length) := Lib.hid (by rw [w8_length, sigC_length _ _ HTF.out HTG.out k k (by omega) (by omega)]; omega)
      have HFb : Hid (512 + k * 16 + 16 ≤ (w8 (sigC (tf l) (tg l) (k + 1) k)).length) := Lib.hid (by rw [w8_length, sigC_length _ _ HTF.out HTG.out (k + 1) k (by omega) (by omega)]; omega)
      clear HLA HS4 HZ4 HO4 HG4 HI4 HR4 HC4 HX5
      have hsa := slice16 (w.heap.size + 1) (k * 16)
      have hsb := slice32 gB 0
      refine wp_region_held_drew (S := fun w' => True) (by kernel_rfl) trivial (fun hHeld => ?_)
      refine wpAnyH_take (i := 0) (v := .int .i64 (k : Int)) rfl (by kernel_rfl) (by kernel_rfl) (by kernel_rfl) (fun _ _ _ h => h) (Or.inl ⟨by rfl, fun w _ => by rfl⟩) hHeld ?_
      show wpAnyH _ _ _ _ _ _ _ (Act.put _ (some 12) _) _
      simp only [Act.put, List.setIfInBounds_toArray, List.set_cons_zero, List.set_cons_succ]
      refine wpAnyH_take (i := 1) (v := .pointer (some ⟨w.heap.size + 1, 0, none⟩)) rfl (by kernel_rfl) (by kernel_rfl) (by kernel_rfl) (fun _ _ _ h => h) (Or.inl ⟨by rfl, by intro w' _; go_simp⟩) hHeld ?_
      show wpAnyH _ _ _ _ _ _ _ (Act.put _ (some 13) _) _
      simp only [Act.put, List.setIfInBounds_toArray, List.set_cons_zero, List.set_cons_succ]
      refine wpAnyH_take (i := 2) (v := .pointer (some ⟨w.heap.size + 1, k * 16, none⟩)) rfl (by kernel_rfl) (by kernel_rfl) (by kernel_rfl) (fun _ _ _ h => h) (Or.inl ⟨by rfl, by intro w' _; go_simp⟩) hHeld ?_
      show wpAnyH _ _ _ _ _ _ _ (Act.put _ (some 14) _) _
      simp only [Act.put, List.setIfInBounds_toArray, List.set_cons_zero, List.set_cons_succ]
      refine wpAnyH_take (i := 3) (v := .slice (some ⟨w.heap.size + 1, k * 16, none⟩) 16 16) rfl (by kernel_rfl) (by kernel_rfl) (by kernel_rfl) (fun _ _ _ h => h) (Or.inl ⟨by rfl, by intro w' _; go_simp⟩) hHeld ?_
      show wpAnyH _ _ _ _ _ _ _ (Act.put _ (some 15) _) _
      simp only [Act.put, List.setIfInBounds_toArray, List.set_cons_zero, List.set_cons_succ]
      refine wpAnyH_take (i := 4) (v := .slice (some ⟨gB, 0, none⟩) 32 32) rfl (by kernel_rfl) (by kernel_rfl) (by kernel_rfl) (fun _ _ _ h => h) (Or.inl ⟨by rfl, by intro w' _; go_simp⟩) hHeld ?_
      show wpAnyH _ _ _ _ _ _ _ (Act.put _ (some 16) _) _
      simp only [Act.put, List.setIfInBounds_toArray, List.set_cons_zero, List.set_cons_succ]
      refine wpAnyH_ready (rs := [5]) (by kernel_rfl) (by simp) ?_
      refine AllReadyH.cons rfl (fun K hK => ?_) AllReadyH.nil
      refine step_copy_at rfl (.tmp 15) (.tmp 16) 30 30 rfl 5 Tryd.underlying30 info5 (w.heap.size + 1) (k * 16) 16 16 ⟨gB, 0, none⟩ 32 32 rfl rfl (w8 (sigC (tf l) (tg l) k k)) 56 (HC5.out.drewN 1) (w8 (tf l k)) 16 HLf.out rfl (HSa.out _ HB5.out) HFa.out (w8_one _) ?_
      intro X6 HC6 HG6
      refine hK.out _ _ (trivial) (fun hHeld => ?_)
      clear hK K
      show wpAnyH _ _ _ _ _ _ _ (Act.put _ (some 17) _) _
      simp only [Act.put, List.setIfInBounds_toArray, List.set_cons_zero, List.set_cons_succ]
      refine wpAnyH_take (i := 6) (v := .int .i64 16) rfl (by kernel_rfl) (by kernel_rfl) (by kernel_rfl) (fun _ _ _ h => h) (Or.inl ⟨by rfl, fun w _ => by rfl⟩) hHeld ?_
      show wpAnyH _ _ _ _ _ _ _ (Act.put _ (some 6) _) _
      simp only [Act.put, List.setIfInBounds_toArray, List.set_cons_zero, List.set_cons_succ]
      refine wpAnyH_done (by kernel_rfl) ?_ _
      have HC6s : Hid (Blk X6 (w.heap.size + 1) 56 (w8 (sigC (tf l) (tg l) (k + 1) k))) := Lib.hid (by rw [← sigC_sOpen _ _ HTF.out k k hlt]; exact HC6.out)
      have HG6w := Lib.hid (Oct.grown_new (only_drewN HG5.out 1) HG6.out (by omega))
      have HI6 := Lib.hid (InZ.far (HI5.out.below (below_drewN (Below.refl _ _) 1)) HG6.out (by omega))
      have HR6 := Lib.hid (Blk.grown (HR5.out.drewN 1) HG6.out (by intro he; injection he; omega))
      have HB6 := Lib.hid (Blk.grown (HB5.out.drewN 1) HG6.out (by intro he; injection he; omega))
      clear HG5 HI5 HR5 HC5 HB5 HC6 HG6 hHeld hsa hsb
      go_upto_region 7 with fail
      have hsa := slice16 (w.heap.size + 1) (512 + k * 16)
      have hsb := slice32_16 gB
      refine wp_region_held_drew (S := fun w' => True) (by kernel_rfl) trivial (fun hHeld => ?_)
      refine wpAnyH_take (i := 0) (v := .int .i64 (k : Int)) rfl (by kernel_rfl) (by kernel_rfl) (by kernel_rfl) (fun _ _ _ h => h) (Or.inl ⟨by rfl, fun w _ => by rfl⟩) hHeld ?_
      show wpAnyH _ _ _ _ _ _ _ (Act.put _ (some 18) _) _
      simp only [Act.put, List.setIfInBounds_toArray, List.set_cons_zero, List.set_cons_succ]
      refine wpAnyH_take (i := 1) (v := .pointer (some ⟨w.heap.size + 1, 512, none⟩)) rfl (by kernel_rfl) (by kernel_rfl) (by kernel_rfl) (fun _ _ _ h => h) (Or.inl ⟨by rfl, by intro w' _; go_simp⟩) hHeld ?_
      show wpAnyH _ _ _ _ _ _ _ (Act.put _ (some 19) _) _
      simp only [Act.put, List.setIfInBounds_toArray, List.set_cons_zero, List.set_cons_succ]
      refine wpAnyH_take (i := 2) (v := .pointer (some ⟨w.heap.size + 1, 512 + k * 16, none⟩)) rfl (by kernel_rfl) (by kernel_rfl) (by kernel_rfl) (fun _ _ _ h => h) (Or.inl ⟨by rfl, by intro w' _; go_simp⟩) hHeld ?_
      show wpAnyH _ _ _ _ _ _ _ (Act.put _ (some 20) _) _
      simp only [Act.put, List.setIfInBounds_toArray, List.set_cons_zero, List.set_cons_succ]
      refine wpAnyH_take (i := 3) (v := .slice (some ⟨w.heap.size + 1, 512 + k * 16, none⟩) 16 16) rfl (by kernel_rfl) (by kernel_rfl) (by kernel_rfl) (fun _ _ _ h => h) (Or.inl ⟨by rfl, by intro w' _; go_simp⟩) hHeld ?_
      show wpAnyH _ _ _ _ _ _ _ (Act.put _ (some 21) _) _
      simp only [Act.put, List.setIfInBounds_toArray, List.set_cons_zero, List.set_cons_succ]
      refine wpAnyH_take (i := 4) (v := .int .i64 16) rfl (by kernel_rfl) (by kernel_rfl) (by kernel_rfl) (fun _ _ _ h => h) (Or.inl ⟨by rfl, fun w _ => by rfl⟩) hHeld ?_
      show wpAnyH _ _ _ _ _ _ _ (Act.put _ (some 22) _) _
      simp only [Act.put, List.setIfInBounds_toArray, List.set_cons_zero, List.set_cons_succ]
      refine wpAnyH_take (i := 5) (v := .slice (some ⟨gB, 16, none⟩) 16 16) rfl (by kernel_rfl) (by kernel_rfl) (by kernel_rfl) (fun _ _ _ h => h) (Or.inl ⟨by rfl, by intro w' _; go_simp⟩) hHeld ?_
      show wpAnyH _ _ _ _ _ _ _ (Act.put _ (some 23) _) _
      simp only [Act.put, List.setIfInBounds_toArray, List.set_cons_zero, List.set_cons_succ]
      refine wpAnyH_ready (rs := [6]) (by kernel_rfl) (by simp) ?_
      refine AllReadyH.cons rfl (fun K hK => ?_) AllReadyH.nil
      refine step_copy_at rfl (.tmp 21) (.tmp 23) 30 30 rfl 5 Tryd.underlying30 info5 (w.heap.size + 1) (512 + k * 16) 16 16 ⟨gB, 16, none⟩ 16 16 rfl rfl (w8 (sigC (tf l) (tg l) (k + 1) k)) 56 (HC6s.out.drewN 1) (w8 (tg l k)) 16 HLg.out rfl (HSb.out _ HB6.out) HFb.out (w8_one _) ?_
      intro X7 HC7 HG7
      refine hK.out _ _ (trivial) (fun hHeld => ?_)
      clear hK K
      show wpAnyH _ _ _ _ _ _ _ (Act.put _ (some 24) _) _
      simp only [Act.put, List.setIfInBounds_toArray, List.set_cons_zero, List.set_cons_succ]
      refine wpAnyH_done (by kernel_rfl) ?_ _
      have HC7s : Hid (Blk X7 (w.heap.size + 1) 56 (w8 (sigC (tf l) (tg l) (k + 1) (k + 1)))) := Lib.hid (by rw [← sigC_sOther _ _ HTF.out HTG.out (k + 1) k hlt (by omega)]; exact HC7.out)
      have HG7w := Lib.hid (Oct.grown_new (only_drewN HG6w.out 1) HG7.out (by omega))
      have HI7 := Lib.hid (InZ.far (HI6.out.below (below_drewN (Below.refl _ _) 1)) HG7.out (by omega))
      have HR7 := Lib.hid (Blk.grown (HR6.out.drewN 1) HG7.out (by intro he; injection he; omega))
      clear HG6w HI6 HR6 HC6s HB6 HC7 HG7 hHeld hsa hsb
      go_wp2
      go_roundw
      case rel => exact ⟨k + 1, by omega, by go_num, HR7, HC7s, HI7, HG7w⟩
      case measure => simp [intOf]; omega
    · obtain rfl : k = 32 := by omega
      rw [sigC_end, show rows (tf l) 32 ++ rows (tg l) 32 = takeN l from rfl] at HC
      have HRG := Lib.hid HC.out.all
      have HS5 : Hid ((Tryd.prog.info? 56).map (·.size) = some (w8 (takeN l)).length) := Lib.hid (by rw [w8_length, takeN_length]; exact info56)
      have HS6 : Hid ((Tryd.prog.info? 56).map (·.size) = some (w8 (takeN l)).toArray.size) := Lib.hid (by rw [List.size_toArray, w8_length, takeN_length]; exact info56)
      have HZ6 : Hid ((w8 (List.replicate 1024 0)).toArray.size = (w8 (takeN l)).toArray.size) := Lib.hid (by rw [List.size_toArray, List.size_toArray, w8_length, w8_length, takeN_length]; simp)
      have HO6 := Lib.hid (all_oneCell_toArray (w8_one (takeN l)))
      go_wp2_with (first | (refine wpList_load_mid rfl 56 (.tmp 3) rfl (w.heap.size + 1) 0 rfl (w8 (takeN l)) _ HRG.out Tryd.underlying56 rfl HS5.out ?_) | (refine wpList_store_row rfl 56 (.tmp 2) (.tmp 26) rfl w.heap.size (w8 (takeN l)).toArray rfl rfl 56 _ HR.out HS6.out HZ6.out HO6.out ?_))
      exact bodyPost_ret (v := .agg (w8 (takeN l)).toArray) (results_cell_row Tryd.results31 _ _ w.heap.size 56 (w8 (takeN l)).toArray (0, 0) _ rfl (HR.out.setRow _) Tryd.underlying56 rfl HS6.out) rfl ⟨rfl, InZ.far HIK.out (Oct.only_setRow _ _ _) hgw, Oct.grown_new HG.out (Oct.only_setRow _ _ _) (Nat.le_refl _)⟩
end Go.Proofs.YtkonokjhpddbfaaDoor
