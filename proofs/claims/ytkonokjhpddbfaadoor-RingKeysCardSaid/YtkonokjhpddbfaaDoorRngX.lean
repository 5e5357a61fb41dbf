/-
  The document's ring: Sign (function 51): a key's signature by the rows; nothing that was there is written.
-/
import Derived.Test.YtkonokjhpddbfaaDoorRngW
namespace Go.Proofs.YtkonokjhpddbfaaDoor
open Go.RowKit
set_option linter.unusedVariables false

theorem step_store1x {ops : Array Oper} {o : Oper} {a : Act} {w : World} {K : Act → World → Prop} {Q : Exit → Act → World → Prop} {E : Prop} (hw : Region.wanted o (yielded ops a.tmps) = true) (ty : TypeId) (x y : Operand) (ho : o.op = .store ty x y)
    (b off : Nat) (v : Value) (hx : a.eval x = .pointer (some ⟨b, off, none⟩)) (hy : a.eval y = v) (ht : w.there b off 1) (hi : (Tryd.prog.info? ty).map (·.size) = some 1) (h1 : v.oneCell' = true) (hc : v.cells = #[v])
    (h : K (a.put o.dst undef) (w.setCell ⟨b, off, none⟩ v)) : if Region.wanted o (yielded ops a.tmps) = true then Oper.wp Tryd.prog o a w K Q else E := by
  rw [if_pos hw]
  have h0 := run_storeCells_cells (P := Tryd.prog) b off [v] 0 w (fun j hj => by simpa using (ht j (by simpa using hj)).1) (fun j hj => by simpa using (ht j (by simpa using hj)).2) (fun u hu => by simp at hu; subst hu; exact h1)
  have hrun : (storeVar ty ⟨b, off, none⟩ v).run Tryd.prog w = .ok () (w.setCell ⟨b, off, none⟩ v) := by
    cases hq : Tryd.prog.info? ty with
    | none => simp [hq] at hi
    | some i =>
      have hs : i.size = 1 := by simpa [hq] using hi
      simp only [Nat.add_zero] at h0
      simp [storeVar, sizeOf, typeInfo, hq, hc, hs, h0]
      rfl
  unfold Oper.wp execOp
  simp only [ho, hx, hy, Instr.storeAt, Instr.sureAddr, Sem.run_bind, Sem.run_pure, Result.andThen_ok, hrun]
  exact h
/-- The document's rows may be read. -/
def RowsR (w : World) (go : Nat) (seed : List Nat) (tall : Nat) : Prop :=
  ∀ i, i ≤ tall → ∃ gr cr, w.cell? ⟨go, i, none⟩ = some (.slice (some ⟨gr, 0, none⟩) (pw (tall - i)) cr) ∧ pw (tall - i) ≤ cr ∧ cr ≤ 9223372036854775807 ∧ ∀ j, j < pw (tall - i) → w.rangeAt gr (j * 32) (w8 (levN seed i j))
theorem RowsR.below {w w' : World} {b go : Nat} {seed : List Nat} {tall : Nat} (h : RowsR w go seed tall) (hB : Below b w w') (hb : w.heap.size ≤ b) : RowsR w' go seed tall := by
  intro i hi
  obtain ⟨gr, cr, h1, h2, h3, h4⟩ := h i hi
  have hc : ∀ p : Addr, p.block < w.heap.size → w'.cell? p = w.cell? p := fun p hp => (hB.mono hb).cell hp
  exact ⟨gr, cr, (hc ⟨go, i, none⟩ (World.block_lt_of_cell? _ _ h1)).trans h1, h2, h3, fun j hj k u hu => (hc ⟨gr, j * 32 + k, none⟩ (World.block_lt_of_cell? _ _ (h4 j hj k u hu))).trans (h4 j hj k u hu)⟩
theorem OutAt.rows {w : World} {base : Nat} {v : Value} {seed : List Nat} {tall : Nat} (h : OutAt w base v seed tall (tall + 1)) : ∃ go co, v = .slice (some ⟨go, 0, none⟩) (tall + 1) co ∧ go < w.heap.size ∧ base ≤ go ∧ co ≤ 9223372036854775807 ∧ RowsR w go seed tall := by
  obtain ⟨ws, ho, hc⟩ := h
  rcases ho.2 with ⟨_, h0⟩ | ⟨go, co, cur, hv, hb, hg, hn1, hcm, _⟩
  · omega
  · refine ⟨go, co, hv, (ho.lt go (by rw [hv]; rfl)).2, hb, by unfold maxLen at hcm; exact hcm, fun i hi => ?_⟩
    obtain ⟨u, h1, h2, h3⟩ := hc i (by omega)
    obtain ⟨gr, cr, hu, hb2, hl, hn, hm, hr⟩ := own_row (levN_length seed i) (pw_pos (tall - i)) h2
    subst hv
    have h5 := World.ownsRow.cellAt ho i (by omega)
    rw [h1, hu] at h5
    exact ⟨gr, cr, h5, hn, hm, hr⟩

set_option maxRecDepth 100000 in
set_option maxHeartbeats 4000000 in
theorem refsign_any (f r : ByteArray) (seed d : List Nat) (tall key go co : Nat) (w : World) (HX : Hid (Texts f r)) (HL : Hid (seed.length = 32)) (HP : Hid (∀ x ∈ seed, x < 256)) (HDL : Hid (d.length = 32)) (HDP : Hid (∀ x ∈ d, x < 256)) (HR : Hid (RowsR w go seed tall)) (hkp : key < pw tall) (ht : tall ≤ 8) :
    Calls Tryd.prog 51 #[.agg #[.string f, .string r], .agg (w8 seed).toArray, .slice (some ⟨go, 0, none⟩) (tall + 1) co, .int .i64 (key : Int), .agg (w8 d).toArray] w fun e w' => ∃ u, e = .returned (.agg (rsg (signN seed key d) key u).toArray) ∧ w'.ownsRow w.heap.size 29 32 u tall (w8 (rows (wayN seed key) tall)) ∧ Below w.heap.size w w' := by
  have t1 : (tall : Int) ≤ 8 := by omega
  have hkl : key < 256 := Nat.lt_of_lt_of_le hkp (pw_le tall ht)
  have hk2 : (key : Int) ≤ 256 := by omega
  have HSS : Hid ((Tryd.prog.info? 29).map (·.size) = some (w8 seed).length) := Lib.hid (by rw [w8_length, HL.out]; exact info29)
  have HSD : Hid ((Tryd.prog.info? 29).map (·.size) = some (w8 d).length) := Lib.hid (by rw [w8_length, HDL.out]; exact info29)
  obtain ⟨i0, hi, hz0, hz1, hz2⟩ := info_parts info29f
  obtain ⟨S, hS⟩ : ∃ S, signN seed key d = S := ⟨_, rfl⟩
  have HSL : Hid (S.length = 1024) := Lib.hid (by rw [← hS]; exact signN_length _ _ _)
  go_enter Tryd.func51, Tryd.ntmps51
  go_upto_region 1 with fail
  have HA : Hid (Blk ((((w.alloc (.cells #[.string f, .string r] 40)).alloc (.cells (w8 seed).toArray 29)).alloc (.cells (w8 d).toArray 29)).alloc (.cells Tryd.zeroCells99 99)) w.heap.size 40 ([.string f, .string r])) := Lib.hid (by
    have h := (((Blk.new w 40 ([.string f, .string r])).alloc (.cells (w8 seed).toArray 29)).alloc (.cells (w8 d).toArray 29)).alloc (.cells Tryd.zeroCells99 99)
    exact h)
  have HS : Hid (Blk ((((w.alloc (.cells #[.string f, .string r] 40)).alloc (.cells (w8 seed).toArray 29)).alloc (.cells (w8 d).toArray 29)).alloc (.cells Tryd.zeroCells99 99)) (w.heap.size + 1) 29 (w8 seed)) := Lib.hid (by
    have h := ((Blk.new (w.alloc (.cells #[.string f, .string r] 40)) 29 (w8 seed)).alloc (.cells (w8 d).toArray 29)).alloc (.cells Tryd.zeroCells99 99)
    rw [World.size_alloc] at h
    exact h)
  have HD : Hid (Blk ((((w.alloc (.cells #[.string f, .string r] 40)).alloc (.cells (w8 seed).toArray 29)).alloc (.cells (w8 d).toArray 29)).alloc (.cells Tryd.zeroCells99 99)) (w.heap.size + 1 + 1) 29 (w8 d)) := Lib.hid (by
    have h := (Blk.new ((w.alloc (.cells #[.string f, .string r] 40)).alloc (.cells (w8 seed).toArray 29)) 29 (w8 d)).alloc (.cells Tryd.zeroCells99 99)
    rw [World.size_alloc, World.size_alloc] at h
    exact h)
  have HQ : Hid (Blk ((((w.alloc (.cells #[.string f, .string r] 40)).alloc (.cells (w8 seed).toArray 29)).alloc (.cells (w8 d).toArray 29)).alloc (.cells Tryd.zeroCells99 99)) (w.heap.size + 1 + 1 + 1) 99 ((rsg (List.replicate 1024 0) 0 (.slice none 0 0)))) := Lib.hid (by
    have h := Blk.new (((w.alloc (.cells #[.string f, .string r] 40)).alloc (.cells (w8 seed).toArray 29)).alloc (.cells (w8 d).toArray 29)) 99 ((rsg (List.replicate 1024 0) 0 (.slice none 0 0)))
    rw [zc99, World.size_alloc, World.size_alloc, World.size_alloc] at h
    exact h)
  have HW : Hid (Below w.heap.size w ((((w.alloc (.cells #[.string f, .string r] 40)).alloc (.cells (w8 seed).toArray 29)).alloc (.cells (w8 d).toArray 29)).alloc (.cells Tryd.zeroCells99 99))) := Lib.hid (((((Below.refl _ _).alloc (Nat.le_refl _) _).alloc (by simp) _).alloc (by simp; omega) _).alloc (by simp; omega) _)
  generalize ((((w.alloc (.cells #[.string f, .string r] 40)).alloc (.cells (w8 seed).toArray 29)).alloc (.cells (w8 d).toArray 29)).alloc (.cells Tryd.zeroCells99 99)) = V at HA HS HD HQ HW ⊢
  have HRA := Lib.hid HA.out.all
  have HRS := Lib.hid HS.out.all
  have HRD := Lib.hid HD.out.all
  go_wp2_with (first | (refine wpList_load_mid rfl 40 (.tmp 5) rfl w.heap.size 0 rfl [.string f, .string r] _ HRA.out Tryd.underlying40 rfl info40 ?_) | (refine wpList_load_mid rfl 29 (.tmp 6) rfl (w.heap.size + 1) 0 rfl (w8 seed) _ HRS.out Tryd.underlying29 rfl HSS.out ?_) | (refine wpList_load_mid rfl 29 (.tmp 9) rfl (w.heap.size + 1 + 1) 0 rfl (w8 d) _ HRD.out Tryd.underlying29 rfl HSD.out ?_))
  clear HRA HRS HRD
  refine (rsign_any f r seed key d V HX HL HP (by omega) HDL HDP).mono ?_
  rintro e X ⟨rfl, hB⟩
  rw [hS]
  have HQ1 := Lib.hid (HQ.out.below hB HQ.out.lt)
  have HW1 := Lib.hid (HW.out.trans (hB.mono HW.out.size))
  clear hB HA HS HD HQ HW HSS HSD
  have HI0 : Hid ((Tryd.prog.info? 99).map (·.size) = some (rsg S key (.slice none 0 0)).toArray.size) := Lib.hid (by rw [List.size_toArray, rsg_length _ _ _ HSL.out]; exact info99)
  have HL0 : Hid (Tryd.zeroCells99.size = (rsg S key (.slice none 0 0)).toArray.size) := Lib.hid (by rw [← zc99, List.size_toArray, List.size_toArray, rsg_length _ _ _ HSL.out, rsg_length _ _ _ (by simp)])
  have HO0 := Lib.hid (all_oneCell_toArray (rsg_one S key (.slice none 0 0) rfl))
  have HLZ := Lib.hid (heap_alloc_last X (.cells Tryd.zeroCells99 99))
  have hx0 : (w.heap.size + 1 + 1 + 1) < X.heap.size := HQ1.out.lt
  go_upto_region 2 with (first | (refine wpList_built rfl 99 #[(0, .tmp 20), (1, .tmp 22)] rfl #[(0, .agg (w8 S).toArray), (1, .int .u32 (key : Int))] (by simp [Act.eval]) _ (build99s S key HSL.out X) ?_) | (refine wpList_store_row rfl 99 (.tmp 11) (.tmp 23) rfl X.heap.size (rsg S key (.slice none 0 0)).toArray rfl rfl 99 _ HLZ.out HI0.out HL0.out HO0.out ?_; rw [World.setRow_alloc_new]))
  have hB : Below X.heap.size X (X.alloc (.cells (rsg S key (.slice none 0 0)).toArray 99)) := (Below.refl _ _).alloc (Nat.le_refl _) _
  have HZ2 : Hid (Blk (X.alloc (.cells (rsg S key (.slice none 0 0)).toArray 99)) X.heap.size 99 (rsg S key (.slice none 0 0))) := Lib.hid (Blk.new _ _ _)
  have HQ2 := Lib.hid (HQ1.out.below hB HQ1.out.lt)
  have HW2 := Lib.hid (HW1.out.trans (hB.mono HW1.out.size))
  clear hB HQ1 HW1 HI0 HL0 HO0 HLZ
  generalize X.alloc (.cells (rsg S key (.slice none 0 0)).toArray 99) = X2 at HZ2 HQ2 HW2 ⊢
  generalize X.heap.size = g3 at hx0 HZ2 ⊢
  go_wp2_with fail
  go_loopw [13, 12, 14] (fun i a _ wr => ∃ (k : Nat) (v : Value), k ≤ tall ∧ i = .int .i64 k ∧ a = .int .i64 ((key / 2 ^ k : Nat) : Int) ∧ Hid (wr.ownsRow w.heap.size 29 32 v k (w8 (rows (wayN seed key) k))) ∧ Hid (Blk wr g3 99 (rsg S key v)) ∧ Hid (Blk wr (w.heap.size + 1 + 1 + 1) 99 (rsg (List.replicate 1024 0) 0 (.slice none 0 0))) ∧ Hid (Below w.heap.size w wr)) (fun i _ _ _ => tall - (intOf i).toNat)
  case atStart => exact ⟨0, .slice none 0 0, Nat.zero_le _, rfl, by simp, Lib.hid (World.ownsRow_nil _ _ _ _), HZ2, HQ2, HW2⟩
  case round =>
    clear HZ2 HQ2 HW2
    obtain ⟨k, v, hk, rfl, rfl, Gr, Zr, Qr, Br⟩ := hrel
    obtain ⟨y, hy⟩ : ∃ y, key / 2 ^ k = y := ⟨_, rfl⟩
    have hyl : y ≤ key := by rw [← hy]; exact Nat.div_le_self _ _
    have hy9 : (y : Int) ≤ 256 := by omega
    have hdiv : key / 2 ^ (k + 1) = y / 2 := by rw [Nat.pow_succ, ← Nat.div_div_eq_div_mul, hy]
    rw [hy]
    have ydiv : (y : Int).tdiv 2 = ((y / 2 : Nat) : Int) := by rw [Int.tdiv_eq_ediv_of_nonneg (by omega)]; omega
    have ymod : (y : Int).tmod 2 = ((y % 2 : Nat) : Int) := by rw [Int.tmod_eq_emod_of_nonneg (by omega)]; omega
    by_cases hlt : k < tall
    · have k1 : (k : Int) < (tall : Int) := by omega
      have k2 : (k : Int) ≤ 8 := by omega
      obtain ⟨gr, cr, hc1, hcr, hcm, hrow⟩ := HR.out k (by omega)
      have Cr : Hid (wr.cell? ⟨go, k, none⟩ = some (.slice (some ⟨gr, 0, none⟩) (pw (tall - k)) cr)) := Lib.hid ((Br.out.cell (p := ⟨go, k, none⟩) (World.block_lt_of_cell? _ _ hc1)).trans hc1)
      have HWI : Hid ((Tryd.prog.info? 29).map (·.size) = some (w8 (wayN seed key k)).length) := Lib.hid (by rw [w8_length, wayN_length]; exact info29)
      have hpk := pw_le (tall - k) (by omega)
      by_cases hpar : y % 2 = 0
      · have ym0 : (y : Int).tmod 2 = 0 := by rw [ymod, hpar]; rfl
        clear ymod
        have hs : sibN (key / 2 ^ k) = y + 1 := by rw [hy]; unfold sibN; rw [if_pos hpar]
        have hsl := sibN_lt key tall k hlt hkp
        rw [hs] at hsl
        have hsl2 : y + 1 < pw (tall - k) := hsl
        have hf1 : ∀ j u, (w8 (wayN seed key k))[j]? = some u → w.cell? ⟨gr, (y + 1) * 32 + j, none⟩ = some u := by
          have h8 := hrow (y + 1) hsl2
          unfold wayN
          rw [hs]
          exact h8
        have e1 : (y : Int) + 1 < ((pw (tall - k) : Nat) : Int) := by omega
        have e2 : (0 : Int) ≤ (y : Int) + 1 := by omega
        have e3 : (y : Int) + 1 ≤ 256 := by omega
        have Fr : Hid (∀ j u, (w8 (wayN seed key k))[j]? = some u → wr.cell? ⟨gr, (y + 1) * 32 + j, none⟩ = some u) := Lib.hid fun j u hu => (Br.out.cell (p := ⟨gr, (y + 1) * 32 + j, none⟩) (World.block_lt_of_cell? _ _ (hf1 j u hu))).trans (hf1 j u hu)
        go_upto_region 9 with fail
        have hBz : Below wr.heap.size wr wr.drew := below_drewN (Below.refl _ _) 1
        have ZX0 : Hid (Blk wr.drew g3 99 (rsg S key v)) := Lib.hid (Zr.out.below hBz Zr.out.lt)
        have CX0 : Hid (wr.drew.cell? ⟨go, k, none⟩ = some (.slice (some ⟨gr, 0, none⟩) (pw (tall - k)) cr)) := Lib.hid ((hBz.cell (p := ⟨go, k, none⟩) (World.block_lt_of_cell? _ _ Cr.out)).trans Cr.out)
        have FX0 : Hid ((∀ j u, (w8 (wayN seed key k))[j]? = some u → wr.drew.cell? ⟨gr, (y + 1) * 32 + j, none⟩ = some u)) := Lib.hid (fun j u hu => (hBz.cell (p := ⟨gr, (y + 1) * 32 + j, none⟩) (World.block_lt_of_cell? _ _ (Fr.out j u hu))).trans (Fr.out j u hu))
        have GX0 : Hid (wr.drew.ownsRow w.heap.size 29 32 v k (w8 (rows (wayN seed key) k))) := Lib.hid (own_keepB Gr.out hBz)
        have QX0 : Hid (Blk wr.drew (w.heap.size + 1 + 1 + 1) 99 (rsg (List.replicate 1024 0) 0 (.slice none 0 0))) := Lib.hid (Qr.out.below hBz Qr.out.lt)
        have BX0 : Hid (Below w.heap.size w wr.drew) := Lib.hid (Br.out.trans (hBz.mono Br.out.size))
        clear hBz
        refine wp_region_held_drew (S := fun w' => w'.cell? ⟨go, k, none⟩ = some (.slice (some ⟨gr, 0, none⟩) (pw (tall - k)) cr) ∧ (∀ j u, (w8 (wayN seed key k))[j]? = some u → w'.cell? ⟨gr, (y + 1) * 32 + j, none⟩ = some u)) (by kernel_rfl) (⟨CX0.out, FX0.out⟩) (fun hHeld => ?_)
        generalize wr.drew = X0 at hHeld ZX0 CX0 FX0 GX0 QX0 BX0 ⊢
        refine wpAnyH_take (i := 0) (v := .pointer (some ⟨g3, 1025, none⟩)) rfl (by kernel_rfl) (by kernel_rfl) (by kernel_rfl) (fun _ _ _ h => h) (Or.inl ⟨by rfl, by intro w' h; go_simp⟩) hHeld ?_
        show wpAnyH _ _ _ _ _ _ _ (Act.put _ (some 39) _) _
        simp only [Act.put, List.setIfInBounds_toArray, List.set_cons_zero, List.set_cons_succ]
        refine wpAnyH_take (i := 2) (v := .slice (some ⟨go, 0, none⟩) (tall + 1) co) rfl (by kernel_rfl) (by kernel_rfl) (by kernel_rfl) (fun _ _ _ h => h) (Or.inl ⟨by rfl, fun w _ => by rfl⟩) hHeld ?_
        show wpAnyH _ _ _ _ _ _ _ (Act.put _ (some 41) _) _
        simp only [Act.put, List.setIfInBounds_toArray, List.set_cons_zero, List.set_cons_succ]
        refine wpAnyH_take (i := 3) (v := .int .i64 (k : Int)) rfl (by kernel_rfl) (by kernel_rfl) (by kernel_rfl) (fun _ _ _ h => h) (Or.inl ⟨by rfl, fun w _ => by rfl⟩) hHeld ?_
        show wpAnyH _ _ _ _ _ _ _ (Act.put _ (some 42) _) _
        simp only [Act.put, List.setIfInBounds_toArray, List.set_cons_zero, List.set_cons_succ]
        refine wpAnyH_take (i := 4) (v := .pointer (some ⟨go, k, none⟩)) rfl (by kernel_rfl) (by kernel_rfl) (by kernel_rfl) (fun _ _ _ h => h) (Or.inl ⟨by rfl, by intro w' h; go_simp; first | done | (intro hneg; omega)⟩) hHeld ?_
        show wpAnyH _ _ _ _ _ _ _ (Act.put _ (some 43) _) _
        simp only [Act.put, List.setIfInBounds_toArray, List.set_cons_zero, List.set_cons_succ]
        refine wpAnyH_take (i := 5) (v := .slice (some ⟨gr, 0, none⟩) (pw (tall - k)) cr) rfl (by kernel_rfl) (by kernel_rfl) (by kernel_rfl) (fun _ _ _ h => h) (Or.inl ⟨by rfl, by intro w' h; have q9 := h.1; go_simp⟩) hHeld ?_
        show wpAnyH _ _ _ _ _ _ _ (Act.put _ (some 44) _) _
        simp only [Act.put, List.setIfInBounds_toArray, List.set_cons_zero, List.set_cons_succ]
        refine wpAnyH_take (i := 6) (v := .int .i64 ((y : Int) + 1)) rfl (by kernel_rfl) (by kernel_rfl) (by kernel_rfl) (fun _ _ _ h => h) (Or.inl ⟨by rfl, fun w _ => by rfl⟩) hHeld ?_
        show wpAnyH _ _ _ _ _ _ _ (Act.put _ (some 45) _) _
        simp only [Act.put, List.setIfInBounds_toArray, List.set_cons_zero, List.set_cons_succ]
        refine wpAnyH_take (i := 7) (v := .pointer (some ⟨gr, (y + 1) * 32, none⟩)) rfl (by kernel_rfl) (by kernel_rfl) (by kernel_rfl) (fun _ _ _ h => h) (Or.inl ⟨by rfl, by intro w' h; go_simp; first | done | (rw [if_pos (by omega), show ((y : Int) + 1).toNat = y + 1 by omega])⟩) hHeld ?_
        show wpAnyH _ _ _ _ _ _ _ (Act.put _ (some 46) _) _
        simp only [Act.put, List.setIfInBounds_toArray, List.set_cons_zero, List.set_cons_succ]
        refine wpAnyH_take (i := 8) (v := .agg (w8 (wayN seed key k)).toArray) rfl (by kernel_rfl) (by kernel_rfl) (by kernel_rfl) (fun _ _ _ h => h) (yieldsIf_load_mid (by rfl) 29 (.tmp 46) rfl gr ((y + 1) * 32) rfl (w8 (wayN seed key k)) _ (fun w' h => h.2) Tryd.underlying29 rfl HWI.out) hHeld ?_
        show wpAnyH _ _ _ _ _ _ _ (Act.put _ (some 47) _) _
        simp only [Act.put, List.setIfInBounds_toArray, List.set_cons_zero, List.set_cons_succ]
        refine wpAnyH_ready (rs := [1, 9]) (by kernel_rfl) (by simp) ?_
        refine AllReadyH.cons rfl (fun K hK => ?_) (AllReadyH.cons rfl (fun K hK => ?_) AllReadyH.nil)
        · refine Kt.step_val rfl v X0 (by have q9 := ZX0.out.cell 1025; rw [rsg_way _ _ _ HSL.out] at q9; go_simp) ?_
          refine hK.out _ _ (⟨CX0.out, FX0.out⟩) (fun hHeld => ?_)
          clear hK K
          show wpAnyH _ _ _ _ _ _ _ (Act.put _ (some 40) _) _
          simp only [Act.put, List.setIfInBounds_toArray, List.set_cons_zero, List.set_cons_succ]
          refine wpAnyH_ready (rs := [9]) (by kernel_rfl) (by simp) ?_
          refine AllReadyH.cons rfl (fun K hK => ?_) AllReadyH.nil
          refine Kt.step_lay rfl 22 1 #[(0, .tmp 47)] rfl #[(0, .agg (w8 (wayN seed key k)).toArray)] (by simp [Act.eval]) (.slice (some ⟨X0.heap.size, 0, none⟩) 1 1) (X0.alloc (.cells (w8 (wayN seed key k)).toArray 29)) (lay22 (wayN seed key k) (wayN_length _ _ _) X0) ?_
          have hB : Below X0.heap.size X0 (X0.alloc (.cells (w8 (wayN seed key k)).toArray 29)) := (Below.refl _ _).alloc (Nat.le_refl _) _
          have hL := Blk.new X0 29 (w8 (wayN seed key k))
          generalize X0.alloc (.cells (w8 (wayN seed key k)).toArray 29) = X2 at hB hL ⊢
          generalize X0.heap.size = gl at hL ⊢
          have ZX2 : Hid (Blk X2 g3 99 (rsg S key v)) := Lib.hid (ZX0.out.below hB ZX0.out.lt)
          have CX2 : Hid (X2.cell? ⟨go, k, none⟩ = some (.slice (some ⟨gr, 0, none⟩) (pw (tall - k)) cr)) := Lib.hid ((hB.cell (p := ⟨go, k, none⟩) (World.block_lt_of_cell? _ _ CX0.out)).trans CX0.out)
          have FX2 : Hid ((∀ j u, (w8 (wayN seed key k))[j]? = some u → X2.cell? ⟨gr, (y + 1) * 32 + j, none⟩ = some u)) := Lib.hid (fun j u hu => (hB.cell (p := ⟨gr, (y + 1) * 32 + j, none⟩) (World.block_lt_of_cell? _ _ (FX0.out j u hu))).trans (FX0.out j u hu))
          have GX2 : Hid (X2.ownsRow w.heap.size 29 32 v k (w8 (rows (wayN seed key) k))) := Lib.hid (own_keepB GX0.out hB)
          have QX2 : Hid (Blk X2 (w.heap.size + 1 + 1 + 1) 99 (rsg (List.replicate 1024 0) 0 (.slice none 0 0))) := Lib.hid (QX0.out.below hB QX0.out.lt)
          have BX2 : Hid (Below w.heap.size w X2) := Lib.hid (BX0.out.trans (hB.mono BX0.out.size))
          have LX2 : Hid (Blk X2 gl 29 (w8 (wayN seed key k))) := Lib.hid (hL)
          clear ZX0 CX0 FX0 GX0 QX0 BX0 hB hL
          refine hK.out _ _ (⟨CX2.out, FX2.out⟩) (fun hHeld => ?_)
          clear hK K
          show wpAnyH _ _ _ _ _ _ _ (Act.put _ (some 48) _) _
          simp only [Act.put, List.setIfInBounds_toArray, List.set_cons_zero, List.set_cons_succ]
          refine wpAnyH_ready (rs := [10]) (by kernel_rfl) (by simp) ?_
          refine AllReadyH.cons rfl (fun K hK => ?_) AllReadyH.nil
          refine Kt.step_own rfl (.tmp 40) (.tmp 48) 22 rfl w.heap.size 29 i0 (.agg zsum) 32 32 Tryd.underlying22 hi hz0 hz1 hz2 rfl (by decide) v k (w8 (rows (wayN seed key) k)) rfl GX2.out ⟨gl, 0, none⟩ 1 1 (w8 (wayN seed key k)) rfl (by rw [w8_length, wayN_length]) (Kt.news_of LX2.out) (w8_one _) (by unfold maxLen; omega) (by omega) (BX2.out.size) ?_
          intro v2 X3 hOwn hGrow hBl hNil
          have GX3 : Hid (X3.ownsRow w.heap.size 29 32 v2 (k + 1) (w8 (rows (wayN seed key) (k + 1)))) := Lib.hid (by rw [rows_succ, ← w8_append]; exact hOwn)
          have hne : ∀ x t (cs : List Value), t ≠ 29 → Blk X2 x t cs → Blk X3 x t cs := fun x t cs ht hx => hx.grown hGrow (by
            intro e
            obtain ⟨cs2, hb⟩ := own_block GX2.out e.symm
            exact Blk.ne_ hx hb ht rfl)
          have ZX3 := Lib.hid (hne _ _ _ (by decide) ZX2.out)
          have QX3 := Lib.hid (hne _ _ _ (by decide) QX2.out)
          have BX3 : Hid (Below w.heap.size w X3) := Lib.hid (BX2.out.grown hGrow BX2.out.size (fun q hq => (GX2.out.lt q hq).1))
          have CX3 : Hid (X3.cell? ⟨go, k, none⟩ = some (.slice (some ⟨gr, 0, none⟩) (pw (tall - k)) cr)) := Lib.hid ((BX3.out.cell (p := ⟨go, k, none⟩) (World.block_lt_of_cell? _ _ hc1)).trans hc1)
          have FX3 : Hid ((∀ j u, (w8 (wayN seed key k))[j]? = some u → X3.cell? ⟨gr, (y + 1) * 32 + j, none⟩ = some u)) := Lib.hid fun j u hu => (BX3.out.cell (p := ⟨gr, (y + 1) * 32 + j, none⟩) (World.block_lt_of_cell? _ _ (hf1 j u hu))).trans (hf1 j u hu)
          obtain ⟨gx, cx, hv2⟩ : ∃ gx cx, v2 = .slice (some ⟨gx, 0, none⟩) (k + 1) cx := by
            rcases GX3.out.2 with ⟨_, h0⟩ | ⟨gx, cx, _, h1, _⟩
            · omega
            · exact ⟨gx, cx, h1⟩
          subst hv2
          clear hOwn hGrow hBl hNil hne GX2 ZX2 QX2 BX2 CX2 FX2 LX2
          refine hK.out _ _ (⟨CX3.out, FX3.out⟩) (fun hHeld => ?_)
          clear hK K
          show wpAnyH _ _ _ _ _ _ _ (Act.put _ (some 49) _) _
          simp only [Act.put, List.setIfInBounds_toArray, List.set_cons_zero, List.set_cons_succ]
          refine wpAnyH_take (i := 11) (v := .pointer (some ⟨g3, 1025, none⟩)) rfl (by kernel_rfl) (by kernel_rfl) (by kernel_rfl) (fun _ _ _ h => h) (Or.inl ⟨by rfl, by intro w' h; go_simp⟩) hHeld ?_
          show wpAnyH _ _ _ _ _ _ _ (Act.put _ (some 50) _) _
          simp only [Act.put, List.setIfInBounds_toArray, List.set_cons_zero, List.set_cons_succ]
          refine wpAnyH_ready (rs := [12]) (by kernel_rfl) (by simp) ?_
          refine AllReadyH.cons rfl (fun K hK => ?_) AllReadyH.nil
          refine step_store1x rfl 22 (.tmp 50) (.tmp 49) rfl g3 1025 (.slice (some ⟨gx, 0, none⟩) (k + 1) cx) rfl rfl (ZX3.out.there 1025 1 (by rw [rsg_length _ _ _ HSL.out]; omega)) (by kernel_rfl) rfl rfl ?_
          have hOs : X3.grownBy (X3.setCell ⟨g3, 1025, none⟩ (.slice (some ⟨gx, 0, none⟩) (k + 1) cx)) (some g3) := only_setCell (only_refl _ _) (.inl rfl) _
          have ZX4 : Hid (Blk (X3.setCell ⟨g3, 1025, none⟩ (.slice (some ⟨gx, 0, none⟩) (k + 1) cx)) g3 99 (rsg S key (.slice (some ⟨gx, 0, none⟩) (k + 1) cx))) := Lib.hid (by
            have h := ZX3.out.set_ 1025 (.slice (some ⟨gx, 0, none⟩) (k + 1) cx)
            rw [rsg_set _ _ _ _ HSL.out] at h
            exact h)
          have QX4 := Lib.hid (QX3.out.grown hOs (fun e => by injection e with e; omega))
          have GX4 := Lib.hid (GX3.out.kept hOs (by
            right
            intro e
            obtain ⟨cs2, hb⟩ := own_block GX3.out e
            exact Blk.ne_ ZX3.out hb (by decide) rfl))
          have BX4 := Lib.hid (BX3.out.trans (only_up hOs (by omega) BX3.out.size))
          clear hOs GX3 ZX3 QX3 BX3 CX3 FX3
          generalize X3.setCell ⟨g3, 1025, none⟩ (.slice (some ⟨gx, 0, none⟩) (k + 1) cx) = X4 at ZX4 QX4 GX4 BX4 ⊢
          have CX4 : Hid (X4.cell? ⟨go, k, none⟩ = some (.slice (some ⟨gr, 0, none⟩) (pw (tall - k)) cr)) := Lib.hid ((BX4.out.cell (p := ⟨go, k, none⟩) (World.block_lt_of_cell? _ _ hc1)).trans hc1)
          have FX4 : Hid ((∀ j u, (w8 (wayN seed key k))[j]? = some u → X4.cell? ⟨gr, (y + 1) * 32 + j, none⟩ = some u)) := Lib.hid fun j u hu => (BX4.out.cell (p := ⟨gr, (y + 1) * 32 + j, none⟩) (World.block_lt_of_cell? _ _ (hf1 j u hu))).trans (hf1 j u hu)
          refine hK.out _ _ (⟨CX4.out, FX4.out⟩) (fun hHeld => ?_)
          clear hK K
          show wpAnyH _ _ _ _ _ _ _ (Act.put _ none _) _
          simp only [Act.put]
          refine wpAnyH_done (by kernel_rfl) ?_ _
          clear hHeld
          go_wp2
          go_roundw
          case rel => exact ⟨k + 1, _, by omega, by go_num, by rw [hdiv]; rfl, GX4, ZX4, QX4, BX4⟩
          case measure => simp [intOf]; omega
        · refine Kt.step_lay rfl 22 1 #[(0, .tmp 47)] rfl #[(0, .agg (w8 (wayN seed key k)).toArray)] (by simp [Act.eval]) (.slice (some ⟨X0.heap.size, 0, none⟩) 1 1) (X0.alloc (.cells (w8 (wayN seed key k)).toArray 29)) (lay22 (wayN seed key k) (wayN_length _ _ _) X0) ?_
          have hB : Below X0.heap.size X0 (X0.alloc (.cells (w8 (wayN seed key k)).toArray 29)) := (Below.refl _ _).alloc (Nat.le_refl _) _
          have hL := Blk.new X0 29 (w8 (wayN seed key k))
          generalize X0.alloc (.cells (w8 (wayN seed key k)).toArray 29) = X1 at hB hL ⊢
          generalize X0.heap.size = gl at hL ⊢
          have ZX1 : Hid (Blk X1 g3 99 (rsg S key v)) := Lib.hid (ZX0.out.below hB ZX0.out.lt)
          have CX1 : Hid (X1.cell? ⟨go, k, none⟩ = some (.slice (some ⟨gr, 0, none⟩) (pw (tall - k)) cr)) := Lib.hid ((hB.cell (p := ⟨go, k, none⟩) (World.block_lt_of_cell? _ _ CX0.out)).trans CX0.out)
          have FX1 : Hid ((∀ j u, (w8 (wayN seed key k))[j]? = some u → X1.cell? ⟨gr, (y + 1) * 32 + j, none⟩ = some u)) := Lib.hid (fun j u hu => (hB.cell (p := ⟨gr, (y + 1) * 32 + j, none⟩) (World.block_lt_of_cell? _ _ (FX0.out j u hu))).trans (FX0.out j u hu))
          have GX1 : Hid (X1.ownsRow w.heap.size 29 32 v k (w8 (rows (wayN seed key) k))) := Lib.hid (own_keepB GX0.out hB)
          have QX1 : Hid (Blk X1 (w.heap.size + 1 + 1 + 1) 99 (rsg (List.replicate 1024 0) 0 (.slice none 0 0))) := Lib.hid (QX0.out.below hB QX0.out.lt)
          have BX1 : Hid (Below w.heap.size w X1) := Lib.hid (BX0.out.trans (hB.mono BX0.out.size))
          have LX1 : Hid (Blk X1 gl 29 (w8 (wayN seed key k))) := Lib.hid (hL)
          clear ZX0 CX0 FX0 GX0 QX0 BX0 hB hL
          refine hK.out _ _ (⟨CX1.out, FX1.out⟩) (fun hHeld => ?_)
          clear hK K
          show wpAnyH _ _ _ _ _ _ _ (Act.put _ (some 48) _) _
          simp only [Act.put, List.setIfInBounds_toArray, List.set_cons_zero, List.set_cons_succ]
          refine wpAnyH_ready (rs := [1]) (by kernel_rfl) (by simp) ?_
          refine AllReadyH.cons rfl (fun K hK => ?_) AllReadyH.nil
          refine Kt.step_val rfl v X1 (by have q9 := ZX1.out.cell 1025; rw [rsg_way _ _ _ HSL.out] at q9; go_simp) ?_
          refine hK.out _ _ (⟨CX1.out, FX1.out⟩) (fun hHeld => ?_)
          clear hK K
          show wpAnyH _ _ _ _ _ _ _ (Act.put _ (some 40) _) _
          simp only [Act.put, List.setIfInBounds_toArray, List.set_cons_zero, List.set_cons_succ]
          refine wpAnyH_ready (rs := [10]) (by kernel_rfl) (by simp) ?_
          refine AllReadyH.cons rfl (fun K hK => ?_) AllReadyH.nil
          refine Kt.step_own rfl (.tmp 40) (.tmp 48) 22 rfl w.heap.size 29 i0 (.agg zsum) 32 32 Tryd.underlying22 hi hz0 hz1 hz2 rfl (by decide) v k (w8 (rows (wayN seed key) k)) rfl GX1.out ⟨gl, 0, none⟩ 1 1 (w8 (wayN seed key k)) rfl (by rw [w8_length, wayN_length]) (Kt.news_of LX1.out) (w8_one _) (by unfold maxLen; omega) (by omega) (BX1.out.size) ?_
          intro v2 X3 hOwn hGrow hBl hNil
          have GX3 : Hid (X3.ownsRow w.heap.size 29 32 v2 (k + 1) (w8 (rows (wayN seed key) (k + 1)))) := Lib.hid (by rw [rows_succ, ← w8_append]; exact hOwn)
          have hne : ∀ x t (cs : List Value), t ≠ 29 → Blk X1 x t cs → Blk X3 x t cs := fun x t cs ht hx => hx.grown hGrow (by
            intro e
            obtain ⟨cs2, hb⟩ := own_block GX1.out e.symm
            exact Blk.ne_ hx hb ht rfl)
          have ZX3 := Lib.hid (hne _ _ _ (by decide) ZX1.out)
          have QX3 := Lib.hid (hne _ _ _ (by decide) QX1.out)
          have BX3 : Hid (Below w.heap.size w X3) := Lib.hid (BX1.out.grown hGrow BX1.out.size (fun q hq => (GX1.out.lt q hq).1))
          have CX3 : Hid (X3.cell? ⟨go, k, none⟩ = some (.slice (some ⟨gr, 0, none⟩) (pw (tall - k)) cr)) := Lib.hid ((BX3.out.cell (p := ⟨go, k, none⟩) (World.block_lt_of_cell? _ _ hc1)).trans hc1)
          have FX3 : Hid ((∀ j u, (w8 (wayN seed key k))[j]? = some u → X3.cell? ⟨gr, (y + 1) * 32 + j, none⟩ = some u)) := Lib.hid fun j u hu => (BX3.out.cell (p := ⟨gr, (y + 1) * 32 + j, none⟩) (World.block_lt_of_cell? _ _ (hf1 j u hu))).trans (hf1 j u hu)
          obtain ⟨gx, cx, hv2⟩ : ∃ gx cx, v2 = .slice (some ⟨gx, 0, none⟩) (k + 1) cx := by
            rcases GX3.out.2 with ⟨_, h0⟩ | ⟨gx, cx, _, h1, _⟩
            · omega
            · exact ⟨gx, cx, h1⟩
          subst hv2
          clear hOwn hGrow hBl hNil hne GX1 ZX1 QX1 BX1 CX1 FX1 LX1
          refine hK.out _ _ (⟨CX3.out, FX3.out⟩) (fun hHeld => ?_)
          clear hK K
          show wpAnyH _ _ _ _ _ _ _ (Act.put _ (some 49) _) _
          simp only [Act.put, List.setIfInBounds_toArray, List.set_cons_zero, List.set_cons_succ]
          refine wpAnyH_take (i := 11) (v := .pointer (some ⟨g3, 1025, none⟩)) rfl (by kernel_rfl) (by kernel_rfl) (by kernel_rfl) (fun _ _ _ h => h) (Or.inl ⟨by rfl, by intro w' h; go_simp⟩) hHeld ?_
          show wpAnyH _ _ _ _ _ _ _ (Act.put _ (some 50) _) _
          simp only [Act.put, List.setIfInBounds_toArray, List.set_cons_zero, List.set_cons_succ]
          refine wpAnyH_ready (rs := [12]) (by kernel_rfl) (by simp) ?_
          refine AllReadyH.cons rfl (fun K hK => ?_) AllReadyH.nil
          refine step_store1x rfl 22 (.tmp 50) (.tmp 49) rfl g3 1025 (.slice (some ⟨gx, 0, none⟩) (k + 1) cx) rfl rfl (ZX3.out.there 1025 1 (by rw [rsg_length _ _ _ HSL.out]; omega)) (by kernel_rfl) rfl rfl ?_
          have hOs : X3.grownBy (X3.setCell ⟨g3, 1025, none⟩ (.slice (some ⟨gx, 0, none⟩) (k + 1) cx)) (some g3) := only_setCell (only_refl _ _) (.inl rfl) _
          have ZX4 : Hid (Blk (X3.setCell ⟨g3, 1025, none⟩ (.slice (some ⟨gx, 0, none⟩) (k + 1) cx)) g3 99 (rsg S key (.slice (some ⟨gx, 0, none⟩) (k + 1) cx))) := Lib.hid (by
            have h := ZX3.out.set_ 1025 (.slice (some ⟨gx, 0, none⟩) (k + 1) cx)
            rw [rsg_set _ _ _ _ HSL.out] at h
            exact h)
          have QX4 := Lib.hid (QX3.out.grown hOs (fun e => by injection e with e; omega))
          have GX4 := Lib.hid (GX3.out.kept hOs (by
            right
            intro e
            obtain ⟨cs2, hb⟩ := own_block GX3.out e
            exact Blk.ne_ ZX3.out hb (by decide) rfl))
          have BX4 := Lib.hid (BX3.out.trans (only_up hOs (by omega) BX3.out.size))
          clear hOs GX3 ZX3 QX3 BX3 CX3 FX3
          generalize X3.setCell ⟨g3, 1025, none⟩ (.slice (some ⟨gx, 0, none⟩) (k + 1) cx) = X4 at ZX4 QX4 GX4 BX4 ⊢
          have CX4 : Hid (X4.cell? ⟨go, k, none⟩ = some (.slice (some ⟨gr, 0, none⟩) (pw (tall - k)) cr)) := Lib.hid ((BX4.out.cell (p := ⟨go, k, none⟩) (World.block_lt_of_cell? _ _ hc1)).trans hc1)
          have FX4 : Hid ((∀ j u, (w8 (wayN seed key k))[j]? = some u → X4.cell? ⟨gr, (y + 1) * 32 + j, none⟩ = some u)) := Lib.hid fun j u hu => (BX4.out.cell (p := ⟨gr, (y + 1) * 32 + j, none⟩) (World.block_lt_of_cell? _ _ (hf1 j u hu))).trans (hf1 j u hu)
          refine hK.out _ _ (⟨CX4.out, FX4.out⟩) (fun hHeld => ?_)
          clear hK K
          show wpAnyH _ _ _ _ _ _ _ (Act.put _ none _) _
          simp only [Act.put]
          refine wpAnyH_done (by kernel_rfl) ?_ _
          clear hHeld
          go_wp2
          go_roundw
          case rel => exact ⟨k + 1, _, by omega, by go_num, by rw [hdiv]; rfl, GX4, ZX4, QX4, BX4⟩
          case measure => simp [intOf]; omega

      · have hp1 : y % 2 = 1 := by omega
        have ym0 : (y : Int).tmod 2 = 1 := by rw [ymod, hp1]; rfl
        have y1 : (1 : Int) ≤ (y : Int) := by omega
        clear ymod
        have hs : sibN (key / 2 ^ k) = y - 1 := by rw [hy]; unfold sibN; rw [if_neg hpar]
        have hsl := sibN_lt key tall k hlt hkp
        rw [hs] at hsl
        have hsl2 : y - 1 < pw (tall - k) := hsl
        have hf1 : ∀ j u, (w8 (wayN seed key k))[j]? = some u → w.cell? ⟨gr, (y - 1) * 32 + j, none⟩ = some u := by
          have h8 := hrow (y - 1) hsl2
          unfold wayN
          rw [hs]
          exact h8
        have e1 : (y : Int) - 1 < ((pw (tall - k) : Nat) : Int) := by omega
        have e2 : (0 : Int) ≤ (y : Int) - 1 := by omega
        have e3 : (y : Int) - 1 ≤ 256 := by omega
        have Fr : Hid (∀ j u, (w8 (wayN seed key k))[j]? = some u → wr.cell? ⟨gr, (y - 1) * 32 + j, none⟩ = some u) := Lib.hid fun j u hu => (Br.out.cell (p := ⟨gr, (y - 1) * 32 + j, none⟩) (World.block_lt_of_cell? _ _ (hf1 j u hu))).trans (hf1 j u hu)
        go_upto_region 9 with fail
        have hBz : Below wr.heap.size wr wr.drew := below_drewN (Below.refl _ _) 1
        have ZX0 : Hid (Blk wr.drew g3 99 (rsg S key v)) := Lib.hid (Zr.out.below hBz Zr.out.lt)
        have CX0 : Hid (wr.drew.cell? ⟨go, k, none⟩ = some (.slice (some ⟨gr, 0, none⟩) (pw (tall - k)) cr)) := Lib.hid ((hBz.cell (p := ⟨go, k, none⟩) (World.block_lt_of_cell? _ _ Cr.out)).trans Cr.out)
        have FX0 : Hid ((∀ j u, (w8 (wayN seed key k))[j]? = some u → wr.drew.cell? ⟨gr, (y - 1) * 32 + j, none⟩ = some u)) := Lib.hid (fun j u hu => (hBz.cell (p := ⟨gr, (y - 1) * 32 + j, none⟩) (World.block_lt_of_cell? _ _ (Fr.out j u hu))).trans (Fr.out j u hu))
        have GX0 : Hid (wr.drew.ownsRow w.heap.size 29 32 v k (w8 (rows (wayN seed key) k))) := Lib.hid (own_keepB Gr.out hBz)
        have QX0 : Hid (Blk wr.drew (w.heap.size + 1 + 1 + 1) 99 (rsg (List.replicate 1024 0) 0 (.slice none 0 0))) := Lib.hid (Qr.out.below hBz Qr.out.lt)
        have BX0 : Hid (Below w.heap.size w wr.drew) := Lib.hid (Br.out.trans (hBz.mono Br.out.size))
        clear hBz
        refine wp_region_held_drew (S := fun w' => w'.cell? ⟨go, k, none⟩ = some (.slice (some ⟨gr, 0, none⟩) (pw (tall - k)) cr) ∧ (∀ j u, (w8 (wayN seed key k))[j]? = some u → w'.cell? ⟨gr, (y - 1) * 32 + j, none⟩ = some u)) (by kernel_rfl) (⟨CX0.out, FX0.out⟩) (fun hHeld => ?_)
        generalize wr.drew = X0 at hHeld ZX0 CX0 FX0 GX0 QX0 BX0 ⊢
        refine wpAnyH_take (i := 0) (v := .pointer (some ⟨g3, 1025, none⟩)) rfl (by kernel_rfl) (by kernel_rfl) (by kernel_rfl) (fun _ _ _ h => h) (Or.inl ⟨by rfl, by intro w' h; go_simp⟩) hHeld ?_
        show wpAnyH _ _ _ _ _ _ _ (Act.put _ (some 39) _) _
        simp only [Act.put, List.setIfInBounds_toArray, List.set_cons_zero, List.set_cons_succ]
        refine wpAnyH_take (i := 2) (v := .slice (some ⟨go, 0, none⟩) (tall + 1) co) rfl (by kernel_rfl) (by kernel_rfl) (by kernel_rfl) (fun _ _ _ h => h) (Or.inl ⟨by rfl, fun w _ => by rfl⟩) hHeld ?_
        show wpAnyH _ _ _ _ _ _ _ (Act.put _ (some 41) _) _
        simp only [Act.put, List.setIfInBounds_toArray, List.set_cons_zero, List.set_cons_succ]
        refine wpAnyH_take (i := 3) (v := .int .i64 (k : Int)) rfl (by kernel_rfl) (by kernel_rfl) (by kernel_rfl) (fun _ _ _ h => h) (Or.inl ⟨by rfl, fun w _ => by rfl⟩) hHeld ?_
        show wpAnyH _ _ _ _ _ _ _ (Act.put _ (some 42) _) _
        simp only [Act.put, List.setIfInBounds_toArray, List.set_cons_zero, List.set_cons_succ]
        refine wpAnyH_take (i := 4) (v := .pointer (some ⟨go, k, none⟩)) rfl (by kernel_rfl) (by kernel_rfl) (by kernel_rfl) (fun _ _ _ h => h) (Or.inl ⟨by rfl, by intro w' h; go_simp; first | done | (intro hneg; omega)⟩) hHeld ?_
        show wpAnyH _ _ _ _ _ _ _ (Act.put _ (some 43) _) _
        simp only [Act.put, List.setIfInBounds_toArray, List.set_cons_zero, List.set_cons_succ]
        refine wpAnyH_take (i := 5) (v := .slice (some ⟨gr, 0, none⟩) (pw (tall - k)) cr) rfl (by kernel_rfl) (by kernel_rfl) (by kernel_rfl) (fun _ _ _ h => h) (Or.inl ⟨by rfl, by intro w' h; have q9 := h.1; go_simp⟩) hHeld ?_
        show wpAnyH _ _ _ _ _ _ _ (Act.put _ (some 44) _) _
        simp only [Act.put, List.setIfInBounds_toArray, List.set_cons_zero, List.set_cons_succ]
        refine wpAnyH_take (i := 6) (v := .int .i64 ((y : Int) - 1)) rfl (by kernel_rfl) (by kernel_rfl) (by kernel_rfl) (fun _ _ _ h => h) (Or.inl ⟨by rfl, fun w _ => by rfl⟩) hHeld ?_
        show wpAnyH _ _ _ _ _ _ _ (Act.put _ (some 45) _) _
        simp only [Act.put, List.setIfInBounds_toArray, List.set_cons_zero, List.set_cons_succ]
        refine wpAnyH_take (i := 7) (v := .pointer (some ⟨gr, (y - 1) * 32, none⟩)) rfl (by kernel_rfl) (by kernel_rfl) (by kernel_rfl) (fun _ _ _ h => h) (Or.inl ⟨by rfl, by intro w' h; go_simp; first | done | (rw [if_pos (by omega), show ((y : Int) - 1).toNat = y - 1 by omega])⟩) hHeld ?_
        show wpAnyH _ _ _ _ _ _ _ (Act.put _ (some 46) _) _
        simp only [Act.put, List.setIfInBounds_toArray, List.set_cons_zero, List.set_cons_succ]
        refine wpAnyH_take (i := 8) (v := .agg (w8 (wayN seed key k)).toArray) rfl (by kernel_rfl) (by kernel_rfl) (by kernel_rfl) (fun _ _ _ h => h) (yieldsIf_load_mid (by rfl) 29 (.tmp 46) rfl gr ((y - 1) * 32) rfl (w8 (wayN seed key k)) _ (fun w' h => h.2) Tryd.underlying29 rfl HWI.out) hHeld ?_
        show wpAnyH _ _ _ _ _ _ _ (Act.put _ (some 47) _) _
        simp only [Act.put, List.setIfInBounds_toArray, List.set_cons_zero, List.set_cons_succ]
        refine wpAnyH_ready (rs := [1, 9]) (by kernel_rfl) (by simp) ?_
        refine AllReadyH.cons rfl (fun K hK => ?_) (AllReadyH.cons rfl (fun K hK => ?_) AllReadyH.nil)
        · refine Kt.step_val rfl v X0 (by have q9 := ZX0.out.cell 1025; rw [rsg_way _ _ _ HSL.out] at q9; go_simp) ?_
          refine hK.out _ _ (⟨CX0.out, FX0.out⟩) (fun hHeld => ?_)
          clear hK K
          show wpAnyH _ _ _ _ _ _ _ (Act.put _ (some 40) _) _
          simp only [Act.put, List.setIfInBounds_toArray, List.set_cons_zero, List.set_cons_succ]
          refine wpAnyH_ready (rs := [9]) (by kernel_rfl) (by simp) ?_
          refine AllReadyH.cons rfl (fun K hK => ?_) AllReadyH.nil
          refine Kt.step_lay rfl 22 1 #[(0, .tmp 47)] rfl #[(0, .agg (w8 (wayN seed key k)).toArray)] (by simp [Act.eval]) (.slice (some ⟨X0.heap.size, 0, none⟩) 1 1) (X0.alloc (.cells (w8 (wayN seed key k)).toArray 29)) (lay22 (wayN seed key k) (wayN_length _ _ _) X0) ?_
          have hB : Below X0.heap.size X0 (X0.alloc (.cells (w8 (wayN seed key k)).toArray 29)) := (Below.refl _ _).alloc (Nat.le_refl _) _
          have hL := Blk.new X0 29 (w8 (wayN seed key k))
          generalize X0.alloc (.cells (w8 (wayN seed key k)).toArray 29) = X2 at hB hL ⊢
          generalize X0.heap.size = gl at hL ⊢
          have ZX2 : Hid (Blk X2 g3 99 (rsg S key v)) := Lib.hid (ZX0.out.below hB ZX0.out.lt)
          have CX2 : Hid (X2.cell? ⟨go, k, none⟩ = some (.slice (some ⟨gr, 0, none⟩) (pw (tall - k)) cr)) := Lib.hid ((hB.cell (p := ⟨go, k, none⟩) (World.block_lt_of_cell? _ _ CX0.out)).trans CX0.out)
          have FX2 : Hid ((∀ j u, (w8 (wayN seed key k))[j]? = some u → X2.cell? ⟨gr, (y - 1) * 32 + j, none⟩ = some u)) := Lib.hid (fun j u hu => (hB.cell (p := ⟨gr, (y - 1) * 32 + j, none⟩) (World.block_lt_of_cell? _ _ (FX0.out j u hu))).trans (FX0.out j u hu))
          have GX2 : Hid (X2.ownsRow w.heap.size 29 32 v k (w8 (rows (wayN seed key) k))) := Lib.hid (own_keepB GX0.out hB)
          have QX2 : Hid (Blk X2 (w.heap.size + 1 + 1 + 1) 99 (rsg (List.replicate 1024 0) 0 (.slice none 0 0))) := Lib.hid (QX0.out.below hB QX0.out.lt)
          have BX2 : Hid (Below w.heap.size w X2) := Lib.hid (BX0.out.trans (hB.mono BX0.out.size))
          have LX2 : Hid (Blk X2 gl 29 (w8 (wayN seed key k))) := Lib.hid (hL)
          clear ZX0 CX0 FX0 GX0 QX0 BX0 hB hL
          refine hK.out _ _ (⟨CX2.out, FX2.out⟩) (fun hHeld => ?_)
          clear hK K
          show wpAnyH _ _ _ _ _ _ _ (Act.put _ (some 48) _) _
          simp only [Act.put, List.setIfInBounds_toArray, List.set_cons_zero, List.set_cons_succ]
          refine wpAnyH_ready (rs := [10]) (by kernel_rfl) (by simp) ?_
          refine AllReadyH.cons rfl (fun K hK => ?_) AllReadyH.nil
          refine Kt.step_own rfl (.tmp 40) (.tmp 48) 22 rfl w.heap.size 29 i0 (.agg zsum) 32 32 Tryd.underlying22 hi hz0 hz1 hz2 rfl (by decide) v k (w8 (rows (wayN seed key) k)) rfl GX2.out ⟨gl, 0, none⟩ 1 1 (w8 (wayN seed key k)) rfl (by rw [w8_length, wayN_length]) (Kt.news_of LX2.out) (w8_one _) (by unfold maxLen; omega) (by omega) (BX2.out.size) ?_
          intro v2 X3 hOwn hGrow hBl hNil
          have GX3 : Hid (X3.ownsRow w.heap.size 29 32 v2 (k + 1) (w8 (rows (wayN seed key) (k + 1)))) := Lib.hid (by rw [rows_succ, ← w8_append]; exact hOwn)
          have hne : ∀ x t (cs : List Value), t ≠ 29 → Blk X2 x t cs → Blk X3 x t cs := fun x t cs ht hx => hx.grown hGrow (by
            intro e
            obtain ⟨cs2, hb⟩ := own_block GX2.out e.symm
            exact Blk.ne_ hx hb ht rfl)
          have ZX3 := Lib.hid (hne _ _ _ (by decide) ZX2.out)
          have QX3 := Lib.hid (hne _ _ _ (by decide) QX2.out)
          have BX3 : Hid (Below w.heap.size w X3) := Lib.hid (BX2.out.grown hGrow BX2.out.size (fun q hq => (GX2.out.lt q hq).1))
          have CX3 : Hid (X3.cell? ⟨go, k, none⟩ = some (.slice (some ⟨gr, 0, none⟩) (pw (tall - k)) cr)) := Lib.hid ((BX3.out.cell (p := ⟨go, k, none⟩) (World.block_lt_of_cell? _ _ hc1)).trans hc1)
          have FX3 : Hid ((∀ j u, (w8 (wayN seed key k))[j]? = some u → X3.cell? ⟨gr, (y - 1) * 32 + j, none⟩ = some u)) := Lib.hid fun j u hu => (BX3.out.cell (p := ⟨gr, (y - 1) * 32 + j, none⟩) (World.block_lt_of_cell? _ _ (hf1 j u hu))).trans (hf1 j u hu)
          obtain ⟨gx, cx, hv2⟩ : ∃ gx cx, v2 = .slice (some ⟨gx, 0, none⟩) (k + 1) cx := by
            rcases GX3.out.2 with ⟨_, h0⟩ | ⟨gx, cx, _, h1, _⟩
            · omega
            · exact ⟨gx, cx, h1⟩
          subst hv2
          clear hOwn hGrow hBl hNil hne GX2 ZX2 QX2 BX2 CX2 FX2 LX2
          refine hK.out _ _ (⟨CX3.out, FX3.out⟩) (fun hHeld => ?_)
          clear hK K
          show wpAnyH _ _ _ _ _ _ _ (Act.put _ (some 49) _) _
          simp only [Act.put, List.setIfInBounds_toArray, List.set_cons_zero, List.set_cons_succ]
          refine wpAnyH_take (i := 11) (v := .pointer (some ⟨g3, 1025, none⟩)) rfl (by kernel_rfl) (by kernel_rfl) (by kernel_rfl) (fun _ _ _ h => h) (Or.inl ⟨by rfl, by intro w' h; go_simp⟩) hHeld ?_
          show wpAnyH _ _ _ _ _ _ _ (Act.put _ (some 50) _) _
          simp only [Act.put, List.setIfInBounds_toArray, List.set_cons_zero, List.set_cons_succ]
          refine wpAnyH_ready (rs := [12]) (by kernel_rfl) (by simp) ?_
          refine AllReadyH.cons rfl (fun K hK => ?_) AllReadyH.nil
          refine step_store1x rfl 22 (.tmp 50) (.tmp 49) rfl g3 1025 (.slice (some ⟨gx, 0, none⟩) (k + 1) cx) rfl rfl (ZX3.out.there 1025 1 (by rw [rsg_length _ _ _ HSL.out]; omega)) (by kernel_rfl) rfl rfl ?_
          have hOs : X3.grownBy (X3.setCell ⟨g3, 1025, none⟩ (.slice (some ⟨gx, 0, none⟩) (k + 1) cx)) (some g3) := only_setCell (only_refl _ _) (.inl rfl) _
          have ZX4 : Hid (Blk (X3.setCell ⟨g3, 1025, none⟩ (.slice (some ⟨gx, 0, none⟩) (k + 1) cx)) g3 99 (rsg S key (.slice (some ⟨gx, 0, none⟩) (k + 1) cx))) := Lib.hid (by
            have h := ZX3.out.set_ 1025 (.slice (some ⟨gx, 0, none⟩) (k + 1) cx)
            rw [rsg_set _ _ _ _ HSL.out] at h
            exact h)
          have QX4 := Lib.hid (QX3.out.grown hOs (fun e => by injection e with e; omega))
          have GX4 := Lib.hid (GX3.out.kept hOs (by
            right
            intro e
            obtain ⟨cs2, hb⟩ := own_block GX3.out e
            exact Blk.ne_ ZX3.out hb (by decide) rfl))
          have BX4 := Lib.hid (BX3.out.trans (only_up hOs (by omega) BX3.out.size))
          clear hOs GX3 ZX3 QX3 BX3 CX3 FX3
          generalize X3.setCell ⟨g3, 1025, none⟩ (.slice (some ⟨gx, 0, none⟩) (k + 1) cx) = X4 at ZX4 QX4 GX4 BX4 ⊢
          have CX4 : Hid (X4.cell? ⟨go, k, none⟩ = some (.slice (some ⟨gr, 0, none⟩) (pw (tall - k)) cr)) := Lib.hid ((BX4.out.cell (p := ⟨go, k, none⟩) (World.block_lt_of_cell? _ _ hc1)).trans hc1)
          have FX4 : Hid ((∀ j u, (w8 (wayN seed key k))[j]? = some u → X4.cell? ⟨gr, (y - 1) * 32 + j, none⟩ = some u)) := Lib.hid fun j u hu => (BX4.out.cell (p := ⟨gr, (y - 1) * 32 + j, none⟩) (World.block_lt_of_cell? _ _ (hf1 j u hu))).trans (hf1 j u hu)
          refine hK.out _ _ (⟨CX4.out, FX4.out⟩) (fun hHeld => ?_)
          clear hK K
          show wpAnyH _ _ _ _ _ _ _ (Act.put _ none _) _
          simp only [Act.put]
          refine wpAnyH_done (by kernel_rfl) ?_ _
          clear hHeld
          go_wp2
          go_roundw
          case rel => exact ⟨k + 1, _, by omega, by go_num, by rw [hdiv]; rfl, GX4, ZX4, QX4, BX4⟩
          case measure => simp [intOf]; omega
        · refine Kt.step_lay rfl 22 1 #[(0, .tmp 47)] rfl #[(0, .agg (w8 (wayN seed key k)).toArray)] (by simp [Act.eval]) (.slice (some ⟨X0.heap.size, 0, none⟩) 1 1) (X0.alloc (.cells (w8 (wayN seed key k)).toArray 29)) (lay22 (wayN seed key k) (wayN_length _ _ _) X0) ?_
          have hB : Below X0.heap.size X0 (X0.alloc (.cells (w8 (wayN seed key k)).toArray 29)) := (Below.refl _ _).alloc (Nat.le_refl _) _
          have hL := Blk.new X0 29 (w8 (wayN seed key k))
          generalize X0.alloc (.cells (w8 (wayN seed key k)).toArray 29) = X1 at hB hL ⊢
          generalize X0.heap.size = gl at hL ⊢
          have ZX1 : Hid (Blk X1 g3 99 (rsg S key v)) := Lib.hid (ZX0.out.below hB ZX0.out.lt)
          have CX1 : Hid (X1.cell? ⟨go, k, none⟩ = some (.slice (some ⟨gr, 0, none⟩) (pw (tall - k)) cr)) := Lib.hid ((hB.cell (p := ⟨go, k, none⟩) (World.block_lt_of_cell? _ _ CX0.out)).trans CX0.out)
          have FX1 : Hid ((∀ j u, (w8 (wayN seed key k))[j]? = some u → X1.cell? ⟨gr, (y - 1) * 32 + j, none⟩ = some u)) := Lib.hid (fun j u hu => (hB.cell (p := ⟨gr, (y - 1) * 32 + j, none⟩) (World.block_lt_of_cell? _ _ (FX0.out j u hu))).trans (FX0.out j u hu))
          have GX1 : Hid (X1.ownsRow w.heap.size 29 32 v k (w8 (rows (wayN seed key) k))) := Lib.hid (own_keepB GX0.out hB)
          have QX1 : Hid (Blk X1 (w.heap.size + 1 + 1 + 1) 99 (rsg (List.replicate 1024 0) 0 (.slice none 0 0))) := Lib.hid (QX0.out.below hB QX0.out.lt)
          have BX1 : Hid (Below w.heap.size w X1) := Lib.hid (BX0.out.trans (hB.mono BX0.out.size))
          have LX1 : Hid (Blk X1 gl 29 (w8 (wayN seed key k))) := Lib.hid (hL)
          clear ZX0 CX0 FX0 GX0 QX0 BX0 hB hL
          refine hK.out _ _ (⟨CX1.out, FX1.out⟩) (fun hHeld => ?_)
          clear hK K
          show wpAnyH _ _ _ _ _ _ _ (Act.put _ (some 48) _) _
          simp only [Act.put, List.setIfInBounds_toArray, List.set_cons_zero, List.set_cons_succ]
          refine wpAnyH_ready (rs := [1]) (by kernel_rfl) (by simp) ?_
          refine AllReadyH.cons rfl (fun K hK => ?_) AllReadyH.nil
          refine Kt.step_val rfl v X1 (by have q9 := ZX1.out.cell 1025; rw [rsg_way _ _ _ HSL.out] at q9; go_simp) ?_
          refine hK.out _ _ (⟨CX1.out, FX1.out⟩) (fun hHeld => ?_)
          clear hK K
          show wpAnyH _ _ _ _ _ _ _ (Act.put _ (some 40) _) _
          simp only [Act.put, List.setIfInBounds_toArray, List.set_cons_zero, List.set_cons_succ]
          refine wpAnyH_ready (rs := [10]) (by kernel_rfl) (by simp) ?_
          refine AllReadyH.cons rfl (fun K hK => ?_) AllReadyH.nil
          refine Kt.step_own rfl (.tmp 40) (.tmp 48) 22 rfl w.heap.size 29 i0 (.agg zsum) 32 32 Tryd.underlying22 hi hz0 hz1 hz2 rfl (by decide) v k (w8 (rows (wayN seed key) k)) rfl GX1.out ⟨gl, 0, none⟩ 1 1 (w8 (wayN seed key k)) rfl (by rw [w8_length, wayN_length]) (Kt.news_of LX1.out) (w8_one _) (by unfold maxLen; omega) (by omega) (BX1.out.size) ?_
          intro v2 X3 hOwn hGrow hBl hNil
          have GX3 : Hid (X3.ownsRow w.heap.size 29 32 v2 (k + 1) (w8 (rows (wayN seed key) (k + 1)))) := Lib.hid (by rw [rows_succ, ← w8_append]; exact hOwn)
          have hne : ∀ x t (cs : List Value), t ≠ 29 → Blk X1 x t cs → Blk X3 x t cs := fun x t cs ht hx => hx.grown hGrow (by
            intro e
            obtain ⟨cs2, hb⟩ := own_block GX1.out e.symm
            exact Blk.ne_ hx hb ht rfl)
          have ZX3 := Lib.hid (hne _ _ _ (by decide) ZX1.out)
          have QX3 := Lib.hid (hne _ _ _ (by decide) QX1.out)
          have BX3 : Hid (Below w.heap.size w X3) := Lib.hid (BX1.out.grown hGrow BX1.out.size (fun q hq => (GX1.out.lt q hq).1))
          have CX3 : Hid (X3.cell? ⟨go, k, none⟩ = some (.slice (some ⟨gr, 0, none⟩) (pw (tall - k)) cr)) := Lib.hid ((BX3.out.cell (p := ⟨go, k, none⟩) (World.block_lt_of_cell? _ _ hc1)).trans hc1)
          have FX3 : Hid ((∀ j u, (w8 (wayN seed key k))[j]? = some u → X3.cell? ⟨gr, (y - 1) * 32 + j, none⟩ = some u)) := Lib.hid fun j u hu => (BX3.out.cell (p := ⟨gr, (y - 1) * 32 + j, none⟩) (World.block_lt_of_cell? _ _ (hf1 j u hu))).trans (hf1 j u hu)
          obtain ⟨gx, cx, hv2⟩ : ∃ gx cx, v2 = .slice (some ⟨gx, 0, none⟩) (k + 1) cx := by
            rcases GX3.out.2 with ⟨_, h0⟩ | ⟨gx, cx, _, h1, _⟩
            · omega
            · exact ⟨gx, cx, h1⟩
          subst hv2
          clear hOwn hGrow hBl hNil hne GX1 ZX1 QX1 BX1 CX1 FX1 LX1
          refine hK.out _ _ (⟨CX3.out, FX3.out⟩) (fun hHeld => ?_)
          clear hK K
          show wpAnyH _ _ _ _ _ _ _ (Act.put _ (some 49) _) _
          simp only [Act.put, List.setIfInBounds_toArray, List.set_cons_zero, List.set_cons_succ]
          refine wpAnyH_take (i := 11) (v := .pointer (some ⟨g3, 1025, none⟩)) rfl (by kernel_rfl) (by kernel_rfl) (by kernel_rfl) (fun _ _ _ h => h) (Or.inl ⟨by rfl, by intro w' h; go_simp⟩) hHeld ?_
          show wpAnyH _ _ _ _ _ _ _ (Act.put _ (some 50) _) _
          simp only [Act.put, List.setIfInBounds_toArray, List.set_cons_zero, List.set_cons_succ]
          refine wpAnyH_ready (rs := [12]) (by kernel_rfl) (by simp) ?_
          refine AllReadyH.cons rfl (fun K hK => ?_) AllReadyH.nil
          refine step_store1x rfl 22 (.tmp 50) (.tmp 49) rfl g3 1025 (.slice (some ⟨gx, 0, none⟩) (k + 1) cx) rfl rfl (ZX3.out.there 1025 1 (by rw [rsg_length _ _ _ HSL.out]; omega)) (by kernel_rfl) rfl rfl ?_
          have hOs : X3.grownBy (X3.setCell ⟨g3, 1025, none⟩ (.slice (some ⟨gx, 0, none⟩) (k + 1) cx)) (some g3) := only_setCell (only_refl _ _) (.inl rfl) _
          have ZX4 : Hid (Blk (X3.setCell ⟨g3, 1025, none⟩ (.slice (some ⟨gx, 0, none⟩) (k + 1) cx)) g3 99 (rsg S key (.slice (some ⟨gx, 0, none⟩) (k + 1) cx))) := Lib.hid (by
            have h := ZX3.out.set_ 1025 (.slice (some ⟨gx, 0, none⟩) (k + 1) cx)
            rw [rsg_set _ _ _ _ HSL.out] at h
            exact h)
          have QX4 := Lib.hid (QX3.out.grown hOs (fun e => by injection e with e; omega))
          have GX4 := Lib.hid (GX3.out.kept hOs (by
            right
            intro e
            obtain ⟨cs2, hb⟩ := own_block GX3.out e
            exact Blk.ne_ ZX3.out hb (by decide) rfl))
          have BX4 := Lib.hid (BX3.out.trans (only_up hOs (by omega) BX3.out.size))
          clear hOs GX3 ZX3 QX3 BX3 CX3 FX3
          generalize X3.setCell ⟨g3, 1025, none⟩ (.slice (some ⟨gx, 0, none⟩) (k + 1) cx) = X4 at ZX4 QX4 GX4 BX4 ⊢
          have CX4 : Hid (X4.cell? ⟨go, k, none⟩ = some (.slice (some ⟨gr, 0, none⟩) (pw (tall - k)) cr)) := Lib.hid ((BX4.out.cell (p := ⟨go, k, none⟩) (World.block_lt_of_cell? _ _ hc1)).trans hc1)
          have FX4 : Hid ((∀ j u, (w8 (wayN seed key k))[j]? = some u → X4.cell? ⟨gr, (y - 1) * 32 + j, none⟩ = some u)) := Lib.hid fun j u hu => (BX4.out.cell (p := ⟨gr, (y - 1) * 32 + j, none⟩) (World.block_lt_of_cell? _ _ (hf1 j u hu))).trans (hf1 j u hu)
          refine hK.out _ _ (⟨CX4.out, FX4.out⟩) (fun hHeld => ?_)
          clear hK K
          show wpAnyH _ _ _ _ _ _ _ (Act.put _ none _) _
          simp only [Act.put]
          refine wpAnyH_done (by kernel_rfl) ?_ _
          clear hHeld
          go_wp2
          go_roundw
          case rel => exact ⟨k + 1, _, by omega, by go_num, by rw [hdiv]; rfl, GX4, ZX4, QX4, BX4⟩
          case measure => simp [intOf]; omega

    · obtain rfl : k = tall := by omega
      have HV1 : Hid (∃ a n c, v = .slice a n c) := Lib.hid (by
        rcases Gr.out.2 with ⟨h1, _⟩ | ⟨g, cap, cur, h1, _⟩
        · exact ⟨none, 0, 0, h1⟩
        · exact ⟨_, _, _, h1⟩)
      have HVO : Hid (v.oneCell' = true) := Lib.hid (by
        obtain ⟨a, n, c, h1⟩ := HV1.out
        rw [h1]; rfl)
      have HZR := Lib.hid Zr.out.all
      have HI4 : Hid ((Tryd.prog.info? 99).map (·.size) = some (rsg S key v).length) := Lib.hid (by rw [rsg_length _ _ _ HSL.out]; exact info99)
      have HI5 : Hid ((Tryd.prog.info? 99).map (·.size) = some (rsg S key v).toArray.size) := Lib.hid (by rw [List.size_toArray]; exact HI4.out)
      have HL5 : Hid ((rsg (List.replicate 1024 0) 0 (.slice none 0 0)).toArray.size = (rsg S key v).toArray.size) := Lib.hid (by rw [List.size_toArray, List.size_toArray, rsg_length _ _ _ (by simp), rsg_length _ _ _ HSL.out])
      have HO5 := Lib.hid (all_oneCell_toArray (rsg_one S key v HVO.out))
      have hO : wr.grownBy (wr.setRow (w.heap.size + 1 + 1 + 1) (rsg S key v).toArray) (some (w.heap.size + 1 + 1 + 1)) := only_setRow (only_refl _ _) _
      have HW6 : Hid ((wr.setRow (w.heap.size + 1 + 1 + 1) (rsg S key v).toArray).ownsRow w.heap.size 29 32 v k (w8 (rows (wayN seed key) k))) := Lib.hid (Gr.out.kept hO (by
        right
        intro e
        obtain ⟨cs', hb⟩ := own_block Gr.out e
        exact Blk.ne_ Qr.out hb (by decide) rfl))
      go_wp2_with (first | (refine wpList_load_mid rfl 99 (.tmp 11) rfl g3 0 rfl (rsg S key v) _ HZR.out Tryd.underlying99 rfl HI4.out ?_) | (refine wpList_store_row rfl 99 (.tmp 10) (.tmp 53) rfl (w.heap.size + 1 + 1 + 1) (rsg S key v).toArray rfl rfl 99 _ Qr.out HI5.out HL5.out HO5.out ?_))
      exact bodyPost_ret (v := .agg (rsg S key v).toArray) (results_cell_row Tryd.results51 _ _ (w.heap.size + 1 + 1 + 1) 99 (rsg S key v).toArray (0, 0) _ rfl (Qr.out.setRow _) Tryd.underlying99 rfl HI5.out) rfl ⟨v, by rw [hS], HW6.out, below_setRow Br.out (by omega) _⟩
end Go.Proofs.YtkonokjhpddbfaaDoor
