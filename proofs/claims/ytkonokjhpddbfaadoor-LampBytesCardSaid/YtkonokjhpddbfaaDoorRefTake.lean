/-
  The document's Take (function 32): place by place 32 bytes off its In, or zeros where they aren't there whole; of older memory only the In is written.
-/
import Derived.Test.YtkonokjhpddbfaaDoorRefIn
import Derived.Test.YtkonokjhpddbfaaDoorLampG
namespace Go.Proofs.YtkonokjhpddbfaaDoor
open Go.RowKit
set_option linter.unusedVariables false

theorem step_store1 {ops : Array Oper} {o : Oper} {a : Act} {w : World} {K : Act → World → Prop} {Q : Exit → Act → World → Prop} {E : Prop} (hw : Region.wanted o (yielded ops a.tmps) = true) (ty : TypeId) (x y : Operand) (ho : o.op = .store ty x y)
    (b off : Nat) (v : Value) (hx : a.eval x = .pointer (some ⟨b, off, none⟩)) (hy : a.eval y = v) (ht : w.there b off 1) (hi : (Tryd.prog.info? ty).map (·.size) = some 1) (h1 : v.oneCell' = true) (hc : v.cells = #[v])
    (h : K (a.put o.dst undef) (w.setCell ⟨b, off, none⟩ v)) : if Region.wanted o (yielded ops a.tmps) = true then Oper.wp Tryd.prog o a w K Q else E := by
  rw [if_pos hw]
  have h0 := run_storeCells_cells (P := Tryd.prog) b off [v] 0 w (fun j hj => by simpa using (ht j (by simpa using hj)).1) (fun j hj => by simpa using (ht j (by simpa using hj)).2) (fun u hu => by simp at hu; subst hu; exact h1)
  have hrun : (storeVar ty ⟨b, off, none⟩ v).run Tryd.prog w = .ok () (w.setCell ⟨b, off, none⟩ v) := by
    cases hq : Tryd.prog.info? ty with
    | none => simp [hq] at hi
    | some i =>
      have hs : i.size = 1 := by simpa [hq] using hi
      simp only [Nat.add_zero] at h0
      simp [storeVar, sizeOf, typeInfo, hq, hc, hs, h0]
      rfl
  unfold Oper.wp execOp
  simp only [ho, hx, hy, Instr.storeAt, Instr.sureAddr, Sem.run_bind, Sem.run_pure, Result.andThen_ok, hrun]
  exact h
/-- A signature so far, within a place. -/
def sigP (f g : Nat → List Nat) (k i j : Nat) : List Nat := rows f k ++ ((f k).take i ++ (List.replicate (16 - i) 0 ++ (List.replicate (512 - 16 * (k + 1)) 0 ++ (rows g k ++ ((g k).take j ++ (List.replicate (16 - j) 0 ++ List.replicate (512 - 16 * (k + 1)) 0))))))
theorem put1 (pre a post : List Nat) (i x o : Nat) (hi : i < 16) (ha : a.length = 16) (hx : a.getD i 0 = x) (ho : pre.length + i = o) : (pre ++ (a.take i ++ (List.replicate (16 - i) 0 ++ post))).set o x = pre ++ (a.take (i + 1) ++ (List.replicate (16 - (i + 1)) 0 ++ post)) := by
  have e : a[i]'(by omega) = x := by rw [← hx]; simp [List.getD, show i < a.length by omega]
  have hl : (a.take i).length = i := by simp; omega
  rw [← ho, List.set_append_right _ _ (by omega), show pre.length + i - pre.length = i by omega, List.set_append_right _ _ (by omega), hl, Nat.sub_self, show 16 - i = (16 - (i + 1)) + 1 by omega, List.replicate_succ, List.cons_append, List.set_cons_zero, List.take_succ_eq_append_getElem (by omega), e]
  simp
theorem sigP_start (f g : Nat → List Nat) (k : Nat) (hk : k < 32) : sigC f g k k = sigP f g k 0 0 := by
  unfold sigC sigP
  rw [zeros_cut (512 - 16 * k) 16 (by omega), show 512 - 16 * k - 16 = 512 - 16 * (k + 1) by omega]
  simp only [List.take_zero, List.nil_append, List.append_assoc, Nat.sub_zero]
theorem sigP_end (f g : Nat → List Nat) (hf : ∀ a, (f a).length = 16) (hg : ∀ a, (g a).length = 16) (k : Nat) : sigP f g k 16 16 = sigC f g (k + 1) (k + 1) := by
  unfold sigC sigP
  rw [rows_succ, rows_succ, List.take_of_length_le (by rw [hf k]; omega), List.take_of_length_le (by rw [hg k]; omega)]
  simp only [Nat.sub_self, List.replicate_zero, List.nil_append, List.append_assoc]
theorem sigP_length (f g : Nat → List Nat) (hf : ∀ a, (f a).length = 16) (hg : ∀ a, (g a).length = 16) (k i j : Nat) (hk : k < 32) (hi : i ≤ 16) (hj : j ≤ 16) : (sigP f g k i j).length = 1024 := by
  unfold sigP
  simp only [List.length_append, rows_length hf, rows_length hg, List.length_replicate, List.length_take, hf k, hg k]
  omega
theorem sigP_o (f g : Nat → List Nat) (hf : ∀ a, (f a).length = 16) (k i j x : Nat) (hi : i < 16) (hx : (f k).getD i 0 = x) : (sigP f g k i j).set (k * 16 + i) x = sigP f g k (i + 1) j := put1 _ _ _ i x _ hi (hf k) hx (by rw [rows_length hf]; omega)
theorem sigP_t (f g : Nat → List Nat) (hf : ∀ a, (f a).length = 16) (hg : ∀ a, (g a).length = 16) (k i j x : Nat) (hk : k < 32) (hi : i ≤ 16) (hj : j < 16) (hx : (g k).getD j 0 = x) : (sigP f g k i j).set (512 + k * 16 + j) x = sigP f g k i (j + 1) := by
  have e : ∀ m, sigP f g k i m = (rows f k ++ ((f k).take i ++ (List.replicate (16 - i) 0 ++ (List.replicate (512 - 16 * (k + 1)) 0 ++ rows g k)))) ++ ((g k).take m ++ (List.replicate (16 - m) 0 ++ List.replicate (512 - 16 * (k + 1)) 0)) := by
    intro m
    unfold sigP
    simp only [List.append_assoc]
  rw [e, e]
  exact put1 _ _ _ j x _ hj (hg k) hx (by simp only [List.length_append, rows_length hf, rows_length hg, List.length_replicate, List.length_take, hf k]; omega)

theorem idx29 (g i : Nat) (hi : i < 16) (W : World) : (Instr.indexAt 29 (.pointer (some ⟨g, 0, none⟩)) (.int .i64 (16 + (i : Int)))).run Tryd.prog W = .ok (.pointer (some ⟨g, 16 + i, none⟩)) W := by
  have i3 : (16 : Int) + (i : Int) < 32 := by omega
  have i4 : (0 : Int) ≤ 16 + (i : Int) := by omega
  have e : ((16 : Int) + (i : Int)).toNat = 16 + i := by omega
  go_simp
set_option maxRecDepth 100000 in
set_option maxHeartbeats 1000000 in
theorem rtake_any (g : Nat) (A : Option Addr) (c : Nat) (l : List Nat) (w : World) (HR0 : Hid (RefK w g A c l 0)) (hl : l.length ≤ 5000) :
    Calls Tryd.prog 32 #[.pointer (some ⟨g, 0, none⟩)] w fun e w' => e = .returned (.agg (w8 (takeN l)).toArray) ∧ RefK w' g A c l 32 ∧ w.grownBy w' (some g) := by
  have hgw := HR0.out.blk.lt
  go_enter Tryd.func32, Tryd.ntmps32
  go_upto_region 2 with fail
  have HB : Hid (Blk ((w.alloc (.cells Tryd.zeroCells51 51)).alloc (.cells Tryd.zeroCells51 51)) w.heap.size 51 (w8 (List.replicate 1024 0))) := Lib.hid (by
    have h := (Blk.new w 51 (w8 (List.replicate 1024 0))).alloc (.cells Tryd.zeroCells51 51)
    rw [zc51] at h
    exact h)
  have HC : Hid (Blk ((w.alloc (.cells Tryd.zeroCells51 51)).alloc (.cells Tryd.zeroCells51 51)) (w.heap.size + 1) 51 (w8 (List.replicate 1024 0))) := Lib.hid (by
    have h := Blk.new (w.alloc (.cells Tryd.zeroCells51 51)) 51 (w8 (List.replicate 1024 0))
    rw [zc51, World.size_alloc] at h
    exact h)
  have HW : Hid (Below w.heap.size w ((w.alloc (.cells Tryd.zeroCells51 51)).alloc (.cells Tryd.zeroCells51 51))) := Lib.hid (((Below.refl _ _).alloc (Nat.le_refl _) _).alloc (by simp) _)
  generalize ((w.alloc (.cells Tryd.zeroCells51 51)).alloc (.cells Tryd.zeroCells51 51)) = V at HB HC HW ⊢
  have HRV := Lib.hid (HR0.out.below HW.out)
  have HGV : Hid (w.grownBy V (some g)) := Lib.hid (Oct.Below.grownBy HW.out _)
  have HTF : Hid (∀ a, (tf l a).length = 16) := Lib.hid (tf_length l)
  have HTG : Hid (∀ a, (tg l a).length = 16) := Lib.hid (tg_length l)
  rw [← sigC_zero (tf l) (tg l)] at HC
  go_wp2_with fail
  go_loopw [4, 5, 6] (fun a _ _ wr => ∃ (k : Nat), k ≤ 32 ∧ a = .int .i64 k ∧ Hid (Blk wr w.heap.size 51 (w8 (List.replicate 1024 0))) ∧ Hid (Blk wr (w.heap.size + 1) 51 (w8 (sigC (tf l) (tg l) k k))) ∧ Hid (RefK wr g A c l k) ∧ Hid (w.grownBy wr (some g))) (fun a _ _ _ => 32 - (intOf a).toNat)
  case atStart => exact ⟨0, Nat.zero_le _, rfl, HB, HC, HRV, HGV⟩
  case round =>
    clear HB HC HRV HGV HW
    obtain ⟨k, hk, rfl, HB, HC, HRK, HG⟩ := hrel
    by_cases hlt : k < 32
    · have k1 : (k : Int) < 32 := by omega
      go_wp2_with fail
      refine (refsum_any g A c l k wr HRK hl (by omega)).mono ?_
      rintro e X4 ⟨rfl, hr4, hg4⟩
      have HG4 := Lib.hid (HG.out.trans hg4)
      have HR4 := Lib.hid hr4
      have HB4 := Lib.hid (HB.out.grown hg4 (by intro he; injection he; omega))
      have HC4 := Lib.hid (HC.out.grown hg4 (by intro he; injection he; omega))
      clear hr4 hg4 HB HC HRK HG
      have HLA := Lib.hid (heap_alloc_last X4 (.cells zsum 29))
      have HS4 : Hid ((Tryd.prog.info? 29).map (·.size) = some (w8 (tk l k)).toArray.size) := Lib.hid (by rw [List.size_toArray, w8_length, tk_length]; exact info29)
      have HZ4 : Hid (zsum.size = (w8 (tk l k)).toArray.size) := Lib.hid (Eq.trans (b := 32) rfl (by rw [List.size_toArray, w8_length, tk_length]))
      have HO4 := Lib.hid (all_oneCell_toArray (w8_one (tk l k)))
      go_upto_region 6 with (first | (refine wpList_store_row rfl 29 (.tmp 5) (.tmp 12) rfl X4.heap.size (w8 (tk l k)).toArray rfl rfl 29 _ HLA.out HS4.out HZ4.out HO4.out ?_; rw [World.setRow_alloc_new]))
      have HD5 : Hid (Blk (X4.alloc (.cells (w8 (tk l k)).toArray 29)) X4.heap.size 29 (w8 (tk l k))) := Lib.hid (by
        have h := Blk.new X4 29 (w8 (tk l k))
        exact h)
      have HX5 : Hid (Below X4.heap.size X4 (X4.alloc (.cells (w8 (tk l k)).toArray 29))) := Lib.hid ((Below.refl _ _).alloc (Nat.le_refl _) _)
      generalize (X4.alloc (.cells (w8 (tk l k)).toArray 29)) = X5 at HD5 HX5 ⊢
      have HG5 := Lib.hid (Oct.only_below HG4.out HX5.out)
      have HR5 := Lib.hid (HR4.out.below HX5.out)
      have HB5 := Lib.hid (HB4.out.below HX5.out HB4.out.lt)
      have HC5 : Hid (Blk X5 (w.heap.size + 1) 51 (w8 (sigP (tf l) (tg l) k 0 0))) := Lib.hid (by rw [← sigP_start _ _ k hlt]; exact HC4.out.below HX5.out HC4.out.lt)
      have hgD : w.heap.size + 1 < X4.heap.size := HC4.out.lt
      generalize X4.heap.size = gD at HD5 hgD ⊢
      clear HLA HS4 HZ4 HO4 HG4 HR4 HB4 HC4 HX5
      go_wp2_with fail
      go_loopw [6] (fun a wr => ∃ (i : Nat), i ≤ 16 ∧ a = .int .i64 i ∧ Hid (Blk wr w.heap.size 51 (w8 (List.replicate 1024 0))) ∧ Hid (Blk wr (w.heap.size + 1) 51 (w8 (sigP (tf l) (tg l) k i i))) ∧ Hid (Blk wr gD 29 (w8 (tk l k))) ∧ Hid (RefK wr g A c l (k + 1)) ∧ Hid (w.grownBy wr (some g))) (fun a _ => 16 - (intOf a).toNat)
      case atStart => exact ⟨0, Nat.zero_le _, rfl, HB5, HC5, HD5, HR5, HG5⟩
      case round =>
        clear HB5 HC5 HD5 HR5 HG5
        obtain ⟨i, hi, rfl, HB8, HC9i, HD8, HR8, HG8⟩ := hrel
        by_cases hil : i < 16
        · have i1 : (i : Int) < 16 := by omega
          have i2 : (i : Int) < 32 := by omega
          have i3 : (16 : Int) + (i : Int) < 32 := by omega
          have i4 : IntKind.i64.wrap (16 + (i : Int)) = 16 + (i : Int) := IntWalk.i64_in _ (by omega)
          obtain ⟨xo, hxo⟩ : ∃ x, (tk l k).getD i 0 = x := ⟨_, rfl⟩
          obtain ⟨xt, hxt⟩ : ∃ x, (tk l k).getD (16 + i) 0 = x := ⟨_, rfl⟩
          have HXo : Hid ((tf l k).getD i 0 = xo) := Lib.hid (by rw [← hxo]; simp [tf, List.getD, hil])
          have HXt : Hid ((tg l k).getD i 0 = xt) := Lib.hid (by rw [← hxt]; simp [tg, List.getD])
          have HCx9 : Hid (∀ w', Blk w' gD 29 (w8 (tk l k)) → w'.cell? ⟨gD, i, none⟩ = some (.int .u8 (xo : Int))) := Lib.hid fun w' h => by rw [h.cell, w8_get _ _ (by rw [tk_length]; omega), hxo]
          have HCx10 : Hid (∀ w', Blk w' gD 29 (w8 (tk l k)) → w'.cell? ⟨gD, 16 + i, none⟩ = some (.int .u8 (xt : Int))) := Lib.hid fun w' h => by rw [h.cell, w8_get _ _ (by rw [tk_length]; omega), hxt]
          have HTH9 : Hid (∀ X : World, Blk X (w.heap.size + 1) 51 (w8 (sigP (tf l) (tg l) k i i)) → X.there (w.heap.size + 1) (k * 16 + i) 1) := Lib.hid fun X h => h.there _ _ (by rw [w8_length, sigP_length _ _ HTF.out HTG.out k i i hlt (by omega) (by omega)]; omega)
          have HTH10 : Hid (∀ X : World, Blk X (w.heap.size + 1) 51 (w8 (sigP (tf l) (tg l) k (i + 1) i)) → X.there (w.heap.size + 1) (512 + k * 16 + i) 1) := Lib.hid fun X h => h.there _ _ (by rw [w8_length, sigP_length _ _ HTF.out HTG.out k (i + 1) i hlt (by omega) (by omega)]; omega)
          have hix : ∀ W : World, (Instr.indexAt 29 (.pointer (some ⟨gD, 0, none⟩)) (.int .i64 (16 + (i : Int)))).run Tryd.prog W = .ok (.pointer (some ⟨gD, 16 + i, none⟩)) W := idx29 gD i hil
          clear hxo hxt
          go_upto_region 9 with fail
          refine wp_region_held_drew (S := fun w' => Blk w' gD 29 (w8 (tk l k))) (by kernel_rfl) (HD8.out.drewN 1) (fun hHeld => ?_)
          refine wpAnyH_take (i := 0) (v := .int .i64 (k : Int)) rfl (by kernel_rfl) (by kernel_rfl) (by kernel_rfl) (fun _ _ _ h => h) (Or.inl ⟨by rfl, fun w _ => by rfl⟩) hHeld ?_
          show wpAnyH _ _ _ _ _ _ _ (Act.put _ (some 17) _) _
          simp only [Act.put, List.setIfInBounds_toArray, List.set_cons_zero, List.set_cons_succ]
          refine wpAnyH_take (i := 1) (v := .int .i64 (i : Int)) rfl (by kernel_rfl) (by kernel_rfl) (by kernel_rfl) (fun _ _ _ h => h) (Or.inl ⟨by rfl, fun w _ => by rfl⟩) hHeld ?_
          show wpAnyH _ _ _ _ _ _ _ (Act.put _ (some 18) _) _
          simp only [Act.put, List.setIfInBounds_toArray, List.set_cons_zero, List.set_cons_succ]
          refine wpAnyH_take (i := 2) (v := .int .i64 (i : Int)) rfl (by kernel_rfl) (by kernel_rfl) (by kernel_rfl) (fun _ _ _ h => h) (Or.inl ⟨by rfl, fun w _ => by rfl⟩) hHeld ?_
          show wpAnyH _ _ _ _ _ _ _ (Act.put _ (some 19) _) _
          simp only [Act.put, List.setIfInBounds_toArray, List.set_cons_zero, List.set_cons_succ]
          refine wpAnyH_take (i := 3) (v := .pointer (some ⟨gD, i, none⟩)) rfl (by kernel_rfl) (by kernel_rfl) (by kernel_rfl) (fun _ _ _ h => h) (Or.inl ⟨by rfl, by intro w' _; go_simp⟩) hHeld ?_
          show wpAnyH _ _ _ _ _ _ _ (Act.put _ (some 20) _) _
          simp only [Act.put, List.setIfInBounds_toArray, List.set_cons_zero, List.set_cons_succ]
          refine wpAnyH_take (i := 4) (v := .int .u8 (xo : Int)) rfl (by kernel_rfl) (by kernel_rfl) (by kernel_rfl) (fun _ _ _ h => h) (Or.inl ⟨by rfl, by intro w' h; have hc := HCx9.out w' h; go_simp⟩) hHeld ?_
          show wpAnyH _ _ _ _ _ _ _ (Act.put _ (some 21) _) _
          simp only [Act.put, List.setIfInBounds_toArray, List.set_cons_zero, List.set_cons_succ]
          refine wpAnyH_take (i := 5) (v := .pointer (some ⟨w.heap.size + 1, 0, none⟩)) rfl (by kernel_rfl) (by kernel_rfl) (by kernel_rfl) (fun _ _ _ h => h) (Or.inl ⟨by rfl, by intro w' _; go_simp⟩) hHeld ?_
          show wpAnyH _ _ _ _ _ _ _ (Act.put _ (some 22) _) _
          simp only [Act.put, List.setIfInBounds_toArray, List.set_cons_zero, List.set_cons_succ]
          refine wpAnyH_take (i := 6) (v := .pointer (some ⟨w.heap.size + 1, k * 16, none⟩)) rfl (by kernel_rfl) (by kernel_rfl) (by kernel_rfl) (fun _ _ _ h => h) (Or.inl ⟨by rfl, by intro w' _; go_simp⟩) hHeld ?_
          show wpAnyH _ _ _ _ _ _ _ (Act.put _ (some 23) _) _
          simp only [Act.put, List.setIfInBounds_toArray, List.set_cons_zero, List.set_cons_succ]
          refine wpAnyH_take (i := 7) (v := .pointer (some ⟨w.heap.size + 1, k * 16 + i, none⟩)) rfl (by kernel_rfl) (by kernel_rfl) (by kernel_rfl) (fun _ _ _ h => h) (Or.inl ⟨by rfl, by intro w' _; go_simp⟩) hHeld ?_
          show wpAnyH _ _ _ _ _ _ _ (Act.put _ (some 24) _) _
          simp only [Act.put, List.setIfInBounds_toArray, List.set_cons_zero, List.set_cons_succ]
          refine wpAnyH_ready (rs := [8]) (by kernel_rfl) (by simp) ?_
          refine AllReadyH.cons rfl (fun K hK => ?_) AllReadyH.nil
          refine step_store1 rfl 5 (.tmp 24) (.tmp 21) rfl (w.heap.size + 1) (k * 16 + i) (.int .u8 (xo : Int)) rfl rfl (HTH9.out _ (HC9i.out.drewN 1)) info5 rfl rfl ?_
          refine hK.out _ _ (Blk.far (HD8.out.drewN 1) (p := ⟨w.heap.size + 1, k * 16 + i, none⟩) (by show gD ≠ w.heap.size + 1; omega) _) (fun hHeld => ?_)
          clear hK K
          show wpAnyH _ _ _ _ _ _ _ (Act.put _ none _) _
          simp only [Act.put]
          refine wpAnyH_done (by kernel_rfl) ?_ _
          have HGs9 : Hid (wr.drew.grownBy (wr.drew.setCell ⟨w.heap.size + 1, k * 16 + i, none⟩ (.int .u8 (xo : Int))) (some (w.heap.size + 1))) := Lib.hid (only_setCell (only_refl _ _) (.inl rfl) _)
          have HC10i : Hid (Blk (wr.drew.setCell ⟨w.heap.size + 1, k * 16 + i, none⟩ (.int .u8 (xo : Int))) (w.heap.size + 1) 51 (w8 (sigP (tf l) (tg l) k (i + 1) i))) := Lib.hid (by
            have h := Blk.set_ (HC9i.out.drewN 1) (k * 16 + i) (.int .u8 (xo : Int))
            rw [w8_set8, sigP_o _ _ HTF.out k i i xo hil HXo.out] at h
            exact h)
          have HB9 := Lib.hid (Blk.grown (w := wr.drew) (HB8.out.drewN 1) HGs9.out (by intro he; injection he; omega))
          have HD9 := Lib.hid (Blk.grown (w := wr.drew) (HD8.out.drewN 1) HGs9.out (by intro he; injection he; omega))
          have HR9 := Lib.hid (RefK.far (w := wr.drew) (HR8.out.below (below_drewN (Below.refl _ _) 1)) HGs9.out (by omega))
          have HG9 := Lib.hid (grown_new' (X1 := wr.drew) (only_drewN HG8.out 1) HGs9.out (by intro b hb; injection hb; omega))
          generalize wr.drew.setCell ⟨w.heap.size + 1, k * 16 + i, none⟩ (.int .u8 (xo : Int)) = X9 at HC10i HB9 HD9 HR9 HG9 ⊢
          clear HB8 HC9i HD8 HR8 HG8 HGs9 hHeld
          go_upto_region 10 with fail
          refine wp_region_held_drew (S := fun w' => Blk w' gD 29 (w8 (tk l k))) (by kernel_rfl) (HD9.out.drewN 1) (fun hHeld => ?_)
          refine wpAnyH_take (i := 0) (v := .int .i64 (k : Int)) rfl (by kernel_rfl) (by kernel_rfl) (by kernel_rfl) (fun _ _ _ h => h) (Or.inl ⟨by rfl, fun w _ => by rfl⟩) hHeld ?_
          show wpAnyH _ _ _ _ _ _ _ (Act.put _ (some 25) _) _
          simp only [Act.put, List.setIfInBounds_toArray, List.set_cons_zero, List.set_cons_succ]
          refine wpAnyH_take (i := 1) (v := .int .i64 (i : Int)) rfl (by kernel_rfl) (by kernel_rfl) (by kernel_rfl) (fun _ _ _ h => h) (Or.inl ⟨by rfl, fun w _ => by rfl⟩) hHeld ?_
          show wpAnyH _ _ _ _ _ _ _ (Act.put _ (some 26) _) _
          simp only [Act.put, List.setIfInBounds_toArray, List.set_cons_zero, List.set_cons_succ]
          refine wpAnyH_take (i := 2) (v := .int .i64 (i : Int)) rfl (by kernel_rfl) (by kernel_rfl) (by kernel_rfl) (fun _ _ _ h => h) (Or.inl ⟨by rfl, fun w _ => by rfl⟩) hHeld ?_
          show wpAnyH _ _ _ _ _ _ _ (Act.put _ (some 27) _) _
          simp only [Act.put, List.setIfInBounds_toArray, List.set_cons_zero, List.set_cons_succ]
          refine wpAnyH_take (i := 3) (v := .int .i64 (16 + (i : Int))) rfl (by kernel_rfl) (by kernel_rfl) (by kernel_rfl) (fun _ _ _ h => h) (Or.inl ⟨by rfl, by intro w' _; go_simp⟩) hHeld ?_
          show wpAnyH _ _ _ _ _ _ _ (Act.put _ (some 28) _) _
          simp only [Act.put, List.setIfInBounds_toArray, List.set_cons_zero, List.set_cons_succ]
          refine wpAnyH_take (i := 4) (v := .pointer (some ⟨gD, 16 + i, none⟩)) rfl (by kernel_rfl) (by kernel_rfl) (by kernel_rfl) (fun _ _ _ h => h) (Or.inl ⟨by rfl, fun w' _ => by first | (have h7 := hix w'; go_simp) | go_simp⟩) hHeld ?_
          show wpAnyH _ _ _ _ _ _ _ (Act.put _ (some 29) _) _
          simp only [Act.put, List.setIfInBounds_toArray, List.set_cons_zero, List.set_cons_succ]
          refine wpAnyH_take (i := 5) (v := .int .u8 (xt : Int)) rfl (by kernel_rfl) (by kernel_rfl) (by kernel_rfl) (fun _ _ _ h => h) (Or.inl ⟨by rfl, by intro w' h; have hc := HCx10.out w' h; go_simp⟩) hHeld ?_
          show wpAnyH _ _ _ _ _ _ _ (Act.put _ (some 30) _) _
          simp only [Act.put, List.setIfInBounds_toArray, List.set_cons_zero, List.set_cons_succ]
          refine wpAnyH_take (i := 6) (v := .pointer (some ⟨w.heap.size + 1, 512, none⟩)) rfl (by kernel_rfl) (by kernel_rfl) (by kernel_rfl) (fun _ _ _ h => h) (Or.inl ⟨by rfl, by intro w' _; go_simp⟩) hHeld ?_
          show wpAnyH _ _ _ _ _ _ _ (Act.put _ (some 31) _) _
          simp only [Act.put, List.setIfInBounds_toArray, List.set_cons_zero, List.set_cons_succ]
          refine wpAnyH_take (i := 7) (v := .pointer (some ⟨w.heap.size + 1, 512 + k * 16, none⟩)) rfl (by kernel_rfl) (by kernel_rfl) (by kernel_rfl) (fun _ _ _ h => h) (Or.inl ⟨by rfl, by intro w' _; go_simp⟩) hHeld ?_
          show wpAnyH _ _ _ _ _ _ _ (Act.put _ (some 32) _) _
          simp only [Act.put, List.setIfInBounds_toArray, List.set_cons_zero, List.set_cons_succ]
          refine wpAnyH_take (i := 8) (v := .pointer (some ⟨w.heap.size + 1, 512 + k * 16 + i, none⟩)) rfl (by kernel_rfl) (by kernel_rfl) (by kernel_rfl) (fun _ _ _ h => h) (Or.inl ⟨by rfl, by intro w' _; go_simp⟩) hHeld ?_
          show wpAnyH _ _ _ _ _ _ _ (Act.put _ (some 33) _) _
          simp only [Act.put, List.setIfInBounds_toArray, List.set_cons_zero, List.set_cons_succ]
          refine wpAnyH_ready (rs := [9]) (by kernel_rfl) (by simp) ?_
          refine AllReadyH.cons rfl (fun K hK => ?_) AllReadyH.nil
          refine step_store1 rfl 5 (.tmp 33) (.tmp 30) rfl (w.heap.size + 1) (512 + k * 16 + i) (.int .u8 (xt : Int)) rfl rfl (HTH10.out _ (HC10i.out.drewN 1)) info5 rfl rfl ?_
          refine hK.out _ _ (Blk.far (HD9.out.drewN 1) (p := ⟨w.heap.size + 1, 512 + k * 16 + i, none⟩) (by show gD ≠ w.heap.size + 1; omega) _) (fun hHeld => ?_)
          clear hK K
          show wpAnyH _ _ _ _ _ _ _ (Act.put _ none _) _
          simp only [Act.put]
          refine wpAnyH_done (by kernel_rfl) ?_ _
          have HGs10 : Hid (X9.drew.grownBy (X9.drew.setCell ⟨w.heap.size + 1, 512 + k * 16 + i, none⟩ (.int .u8 (xt : Int))) (some (w.heap.size + 1))) := Lib.hid (only_setCell (only_refl _ _) (.inl rfl) _)
          have HCE : Hid (Blk (X9.drew.setCell ⟨w.heap.size + 1, 512 + k * 16 + i, none⟩ (.int .u8 (xt : Int))) (w.heap.size + 1) 51 (w8 (sigP (tf l) (tg l) k (i + 1) (i + 1)))) := Lib.hid (by
            have h := Blk.set_ (HC10i.out.drewN 1) (512 + k * 16 + i) (.int .u8 (xt : Int))
            rw [w8_set8, sigP_t _ _ HTF.out HTG.out k (i + 1) i xt hlt (by omega) hil HXt.out] at h
            exact h)
          have HBE := Lib.hid (Blk.grown (w := X9.drew) (HB9.out.drewN 1) HGs10.out (by intro he; injection he; omega))
          have HDE := Lib.hid (Blk.grown (w := X9.drew) (HD9.out.drewN 1) HGs10.out (by intro he; injection he; omega))
          have HRE := Lib.hid (RefK.far (w := X9.drew) (HR9.out.below (below_drewN (Below.refl _ _) 1)) HGs10.out (by omega))
          have HGE := Lib.hid (grown_new' (X1 := X9.drew) (only_drewN HG9.out 1) HGs10.out (by intro b hb; injection hb; omega))
          generalize X9.drew.setCell ⟨w.heap.size + 1, 512 + k * 16 + i, none⟩ (.int .u8 (xt : Int)) = X10 at HCE HBE HDE HRE HGE ⊢
          clear HB9 HC10i HD9 HR9 HG9 HGs10 hHeld hix
          go_wp2
          go_roundw
          case rel => exact ⟨i + 1, by omega, by go_num, HBE, HCE, HDE, HRE, HGE⟩
          case measure => simp [intOf]; omega
        · obtain rfl : i = 16 := by omega
          have HCE : Hid (Blk wr (w.heap.size + 1) 51 (w8 (sigC (tf l) (tg l) (k + 1) (k + 1)))) := Lib.hid (by rw [← sigP_end _ _ HTF.out HTG.out k]; exact HC9i.out)
          clear HC9i
          go_wp2
          go_roundw
          case rel => exact ⟨k + 1, by omega, by go_num, HB8, HCE, HR8, HG8⟩
          case measure => simp [intOf]; omega
    · obtain rfl : k = 32 := by omega
      rw [sigC_end, show rows (tf l) 32 ++ rows (tg l) 32 = takeN l from rfl] at HC
      have HRG := Lib.hid HC.out.all
      have HS5 : Hid ((Tryd.prog.info? 51).map (·.size) = some (w8 (takeN l)).length) := Lib.hid (by rw [w8_length, takeN_length]; exact info51)
      have HS6 : Hid ((Tryd.prog.info? 51).map (·.size) = some (w8 (takeN l)).toArray.size) := Lib.hid (by rw [List.size_toArray, w8_length, takeN_length]; exact info51)
      have HZ6 : Hid ((w8 (List.replicate 1024 0)).toArray.size = (w8 (takeN l)).toArray.size) := Lib.hid (by rw [List.size_toArray, List.size_toArray, w8_length, w8_length, takeN_length]; simp)
      have HO6 := Lib.hid (all_oneCell_toArray (w8_one (takeN l)))
      go_wp2_with (first | (refine wpList_load_mid rfl 51 (.tmp 3) rfl (w.heap.size + 1) 0 rfl (w8 (takeN l)) _ HRG.out Tryd.underlying51 rfl HS5.out ?_) | (refine wpList_store_row rfl 51 (.tmp 2) (.tmp 34) rfl w.heap.size (w8 (takeN l)).toArray rfl rfl 51 _ HB.out HS6.out HZ6.out HO6.out ?_))
      have HGz : wr.grownBy (wr.setRow w.heap.size (w8 (takeN l)).toArray) (some w.heap.size) := Oct.only_setRow _ _ _
      exact bodyPost_ret (v := .agg (w8 (takeN l)).toArray) (results_cell_row Tryd.results32 _ _ w.heap.size 51 (w8 (takeN l)).toArray (0, 0) _ rfl (HB.out.setRow _) Tryd.underlying51 rfl HS6.out) rfl ⟨rfl, HRK.out.far HGz hgw, grown_new' HG.out HGz (by intro b hb; injection hb; omega)⟩
end Go.Proofs.YtkonokjhpddbfaaDoor
