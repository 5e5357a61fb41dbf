/-
  The document's: states compared, what a side has free, whether a state may be.
-/
import Derived.Test.YtkiifjkcpangfaaPacJ
namespace Go.Proofs.Ytkiifjkcpangfaa
open Go.RowKit
set_option linter.unusedVariables false

set_option maxRecDepth 100000 in
set_option maxHeartbeats 4000000 in
theorem rsame_any (ch rd m0 m1 t0 t1 : Int) (a : Option Addr) (n cap : Nat) (cs : List Cnd) (ch2 rd2 m02 m12 t02 t12 : Int) (a2 : Option Addr) (n2 cap2 : Nat) (ds : List Cnd) (w : World) (hC : CRow w a cs) (hl : cs.length = n) (hn : n ≤ 1000) (hD : CRow w a2 ds) (hl2 : ds.length = n2) (hn2 : n2 ≤ 1000) :
    Calls Try.prog 20 #[.agg #[.int .u32 ch, .int .u64 rd, .int .u64 m0, .int .u64 m1, .int .u64 t0, .int .u64 t1, .slice a n cap], .agg #[.int .u32 ch2, .int .u64 rd2, .int .u64 m02, .int .u64 m12, .int .u64 t02, .int .u64 t12, .slice a2 n2 cap2]] w fun e w' => e = .returned (.bool (decide ((⟨ch, rd, m0, m1, t0, t1, cs⟩ : St) = (⟨ch2, rd2, m02, m12, t02, t12, ds⟩ : St)))) ∧ Below w.heap.size w w' := by
  have HC := Lib.hid hC
  have HL := Lib.hid hl
  have HD := Lib.hid hD
  have HL2 := Lib.hid hl2
  have HB : Hid (Below w.heap.size w ((w.alloc (.cells #[.int .u32 ch, .int .u64 rd, .int .u64 m0, .int .u64 m1, .int .u64 t0, .int .u64 t1, .slice a n cap] 27)).alloc (.cells #[.int .u32 ch2, .int .u64 rd2, .int .u64 m02, .int .u64 m12, .int .u64 t02, .int .u64 t12, .slice a2 n2 cap2] 27))) := Lib.hid (((Below.refl _ _).alloc (Nat.le_refl _) _).alloc (by simp) _)
  have S0 : Hid (Blk ((w.alloc (.cells #[.int .u32 ch, .int .u64 rd, .int .u64 m0, .int .u64 m1, .int .u64 t0, .int .u64 t1, .slice a n cap] 27)).alloc (.cells #[.int .u32 ch2, .int .u64 rd2, .int .u64 m02, .int .u64 m12, .int .u64 t02, .int .u64 t12, .slice a2 n2 cap2] 27)) w.heap.size 27 [.int .u32 ch, .int .u64 rd, .int .u64 m0, .int .u64 m1, .int .u64 t0, .int .u64 t1, .slice a n cap]) := Lib.hid ((Blk.mk_ rfl).alloc _)
  have T0 : Hid (Blk ((w.alloc (.cells #[.int .u32 ch, .int .u64 rd, .int .u64 m0, .int .u64 m1, .int .u64 t0, .int .u64 t1, .slice a n cap] 27)).alloc (.cells #[.int .u32 ch2, .int .u64 rd2, .int .u64 m02, .int .u64 m12, .int .u64 t02, .int .u64 t12, .slice a2 n2 cap2] 27)) (w.heap.size + 1) 27 [.int .u32 ch2, .int .u64 rd2, .int .u64 m02, .int .u64 m12, .int .u64 t02, .int .u64 t12, .slice a2 n2 cap2]) := Lib.hid (Blk.mk_ (by simp))
  have hg := guard24
  have q24 := fun x y u v W => neq24 x y u v W
  clear hC hl hD hl2

  by_cases hch : ch = ch2
  · have nch : (ch != ch2) = false := by simpa using hch
    have Hch := Lib.hid hch
    clear hch
    by_cases hrd : rd = rd2
    · have nrd : (rd != rd2) = false := by simpa using hrd
      have Hrd := Lib.hid hrd
      clear hrd
      by_cases hm : m0 = m02 ∧ m1 = m12
      · have bm : decide (m0 = m02 ∧ m1 = m12) = true := decide_eq_true hm
        have Hm := Lib.hid hm
        clear hm
        by_cases ht : t0 = t02 ∧ t1 = t12
        · have bt : decide (t0 = t02 ∧ t1 = t12) = true := decide_eq_true ht
          have Ht := Lib.hid ht
          clear ht
          by_cases hnn : n = n2
          · have bn : ((n : Int) != (n2 : Int)) = false := by simp [hnn]
            have HE : Hid (decide ((⟨ch, rd, m0, m1, t0, t1, cs⟩ : St) = (⟨ch2, rd2, m02, m12, t02, t12, ds⟩ : St)) = decide (cs = ds)) := Lib.hid (by congr 1; rw [St.ext_iff']; simp [Hch.out, Hrd.out, Hm.out, Ht.out])
            have HNN := Lib.hid hnn
            clear hnn
            go_enter Try.func20, Try.ntmps20
            go_wp2
            generalize ((w.alloc (.cells #[.int .u32 ch, .int .u64 rd, .int .u64 m0, .int .u64 m1, .int .u64 t0, .int .u64 t1, .slice a n cap] 27)).alloc (.cells #[.int .u32 ch2, .int .u64 rd2, .int .u64 m02, .int .u64 m12, .int .u64 t02, .int .u64 t12, .slice a2 n2 cap2] 27)) = W at HB S0 T0 ⊢
            obtain ⟨g, hgg⟩ : ∃ g, w.heap.size = g := ⟨_, rfl⟩
            rw [hgg] at S0 T0 ⊢
            have HGG := Lib.hid hgg
            clear hgg bn
            go_loopw [5] (fun i wr => ∃ (k : Nat), k ≤ n ∧ i = .int .i64 k ∧ Hid (cs = ds ↔ cs.drop k = ds.drop k) ∧ Hid (Below w.heap.size w wr) ∧ Hid (Blk wr g 27 [.int .u32 ch, .int .u64 rd, .int .u64 m0, .int .u64 m1, .int .u64 t0, .int .u64 t1, .slice a n cap]) ∧ Hid (Blk wr (g + 1) 27 [.int .u32 ch2, .int .u64 rd2, .int .u64 m02, .int .u64 m12, .int .u64 t02, .int .u64 t12, .slice a2 n2 cap2])) (fun i _ => n - (intOf i).toNat)
            case atStart => exact ⟨0, Nat.zero_le _, rfl, Lib.hid (by simp), HB, S0, T0⟩
            case round =>
              clear HB S0 T0
              obtain ⟨k, hk, rfl, HS, HB, S0, T0⟩ := hrel
              have k6 := S0.out.cell 6
              simp only [List.getElem?_cons_zero, List.getElem?_cons_succ] at k6
              by_cases hlt : k < n
              · have hk' : k < cs.length := by rw [HL.out]; exact hlt
                have hk2' : k < ds.length := by rw [HL2.out, ← HNN.out]; exact hlt
                have hlt2 : k < n2 := by rw [← HNN.out]; exact hlt
                obtain ⟨b, o, c, rfl, hb, hc, hr, hok⟩ := HC.out.get hk'
                obtain ⟨b2, o2, d, rfl, hb2, hd, hr2, hok2⟩ := HD.out.get hk2'
                have HX := Lib.hid (same_step HS.out hk' hk2' hc hd)
                have R1 : Hid (wr.rangeAt b (o + k * 36) c.cells) := Lib.hid (range_below hr HB.out hb)
                have R2 : Hid (wr.rangeAt b2 (o2 + k * 36) d.cells) := Lib.hid (range_below hr2 HB.out hb2)
                have L1 : Hid (b < wr.heap.size) := Lib.hid (Nat.lt_of_lt_of_le hb HB.out.size)
                have L2 : Hid (b2 < wr.heap.size) := Lib.hid (Nat.lt_of_lt_of_le hb2 HB.out.size)
                have BB := HB
                have S := S0
                have T := T0
                have hz1 : (Try.prog.info? 53).map (·.size) = some c.cells.length := by rw [hok.len]; exact info53
                have hz2 : (Try.prog.info? 53).map (·.size) = some d.cells.length := by rw [hok2.len]; exact info53
                have hm := guard53
                have hq := fun W => neq53 c d hok hok2 W
                clear hc hr hb hd hr2 hb2 hok hok2 hk' hk2' HS HB S0 T0
                by_cases h : c = d
                · have b0 : decide (c = d) = true := decide_eq_true h
                  rw [b0] at hq
                  have HT := Lib.hid (HX.out.1 h)
                  clear h b0 HX
                  go_upto_region 6 with fail
                  have hBz : Below wr.heap.size wr wr.drew := below_drewN (Below.refl _ _) 1
                  have R1X0 : Hid (wr.drew.rangeAt b (o + k * 36) c.cells) := Lib.hid (range_below R1.out hBz L1.out)
                  have R2X0 : Hid (wr.drew.rangeAt b2 (o2 + k * 36) d.cells) := Lib.hid (range_below R2.out hBz L2.out)
                  have BBX0 : Hid (Below w.heap.size w wr.drew) := Lib.hid (BB.out.trans (hBz.mono BB.out.size))
                  have SX0 : Hid (Blk wr.drew g 27 [.int .u32 ch, .int .u64 rd, .int .u64 m0, .int .u64 m1, .int .u64 t0, .int .u64 t1, .slice (some ⟨b, o, none⟩) n cap]) := Lib.hid (S.out.below hBz S.out.lt)
                  have TX0 : Hid (Blk wr.drew (g + 1) 27 [.int .u32 ch2, .int .u64 rd2, .int .u64 m02, .int .u64 m12, .int .u64 t02, .int .u64 t12, .slice (some ⟨b2, o2, none⟩) n2 cap2]) := Lib.hid (T.out.below hBz T.out.lt)
                  clear hBz
                  refine wp_region_held_drew (S := fun w' => w'.rangeAt b (o + k * 36) c.cells ∧ w'.rangeAt b2 (o2 + k * 36) d.cells ∧ Blk w' g 27 [.int .u32 ch, .int .u64 rd, .int .u64 m0, .int .u64 m1, .int .u64 t0, .int .u64 t1, .slice (some ⟨b, o, none⟩) n cap] ∧ Blk w' (g + 1) 27 [.int .u32 ch2, .int .u64 rd2, .int .u64 m02, .int .u64 m12, .int .u64 t02, .int .u64 t12, .slice (some ⟨b2, o2, none⟩) n2 cap2]) (by kernel_rfl) (⟨R1X0.out, R2X0.out, SX0.out, TX0.out⟩) (fun hHeld => ?_)
                  generalize wr.drew = X0 at hHeld R1X0 R2X0 BBX0 SX0 TX0 ⊢
                  refine wpAnyH_take (i := 0) (v := .pointer (some ⟨g, 6, none⟩)) rfl (by kernel_rfl) (by kernel_rfl) (by kernel_rfl) (fun _ _ _ h => h) (Or.inl ⟨by rfl, by intro w' h; go_simp⟩) hHeld ?_
                  show wpAnyH _ _ _ _ _ _ _ (Act.put _ (some 48) _) _
                  simp only [Act.put, List.setIfInBounds_toArray, List.set_cons_zero, List.set_cons_succ]
                  refine wpAnyH_take (i := 1) (v := .slice (some ⟨b, o, none⟩) n cap) rfl (by kernel_rfl) (by kernel_rfl) (by kernel_rfl) (fun _ _ _ h => h) (Or.inl ⟨by rfl, by intro w' h; have q := Blk.cell h.2.2.1 6; simp only [List.getElem?_cons_zero, List.getElem?_cons_succ] at q; go_simp⟩) hHeld ?_
                  show wpAnyH _ _ _ _ _ _ _ (Act.put _ (some 49) _) _
                  simp only [Act.put, List.setIfInBounds_toArray, List.set_cons_zero, List.set_cons_succ]
                  refine wpAnyH_take (i := 2) (v := .int .i64 (k : Int)) rfl (by kernel_rfl) (by kernel_rfl) (by kernel_rfl) (fun _ _ _ h => h) (Or.inl ⟨by rfl, fun w _ => by rfl⟩) hHeld ?_
                  show wpAnyH _ _ _ _ _ _ _ (Act.put _ (some 50) _) _
                  simp only [Act.put, List.setIfInBounds_toArray, List.set_cons_zero, List.set_cons_succ]
                  refine wpAnyH_take (i := 3) (v := .pointer (some ⟨b, o + k * 36, none⟩)) rfl (by kernel_rfl) (by kernel_rfl) (by kernel_rfl) (fun _ _ _ h => h) (Or.inl ⟨by rfl, by intro w' h; go_simp⟩) hHeld ?_
                  show wpAnyH _ _ _ _ _ _ _ (Act.put _ (some 51) _) _
                  simp only [Act.put, List.setIfInBounds_toArray, List.set_cons_zero, List.set_cons_succ]
                  refine wpAnyH_take (i := 4) (v := .agg c.cells.toArray) rfl (by kernel_rfl) (by kernel_rfl) (by kernel_rfl) (fun _ _ _ h => h) (yieldsIf_load_mid (by rfl) 53 (.tmp 51) rfl b (o + k * 36) rfl c.cells _ (fun w h => h.1) Try.underlying53 rfl hz1) hHeld ?_
                  show wpAnyH _ _ _ _ _ _ _ (Act.put _ (some 52) _) _
                  simp only [Act.put, List.setIfInBounds_toArray, List.set_cons_zero, List.set_cons_succ]
                  refine wpAnyH_take (i := 5) (v := .pointer (some ⟨g + 1, 6, none⟩)) rfl (by kernel_rfl) (by kernel_rfl) (by kernel_rfl) (fun _ _ _ h => h) (Or.inl ⟨by rfl, by intro w' h; go_simp⟩) hHeld ?_
                  show wpAnyH _ _ _ _ _ _ _ (Act.put _ (some 53) _) _
                  simp only [Act.put, List.setIfInBounds_toArray, List.set_cons_zero, List.set_cons_succ]
                  refine wpAnyH_take (i := 6) (v := .slice (some ⟨b2, o2, none⟩) n2 cap2) rfl (by kernel_rfl) (by kernel_rfl) (by kernel_rfl) (fun _ _ _ h => h) (Or.inl ⟨by rfl, by intro w' h; have q := Blk.cell h.2.2.2 6; simp only [List.getElem?_cons_zero, List.getElem?_cons_succ] at q; go_simp⟩) hHeld ?_
                  show wpAnyH _ _ _ _ _ _ _ (Act.put _ (some 54) _) _
                  simp only [Act.put, List.setIfInBounds_toArray, List.set_cons_zero, List.set_cons_succ]
                  refine wpAnyH_take (i := 7) (v := .int .i64 (k : Int)) rfl (by kernel_rfl) (by kernel_rfl) (by kernel_rfl) (fun _ _ _ h => h) (Or.inl ⟨by rfl, fun w _ => by rfl⟩) hHeld ?_
                  show wpAnyH _ _ _ _ _ _ _ (Act.put _ (some 55) _) _
                  simp only [Act.put, List.setIfInBounds_toArray, List.set_cons_zero, List.set_cons_succ]
                  refine wpAnyH_take (i := 8) (v := .pointer (some ⟨b2, o2 + k * 36, none⟩)) rfl (by kernel_rfl) (by kernel_rfl) (by kernel_rfl) (fun _ _ _ h => h) (Or.inl ⟨by rfl, by intro w' h; go_simp⟩) hHeld ?_
                  show wpAnyH _ _ _ _ _ _ _ (Act.put _ (some 56) _) _
                  simp only [Act.put, List.setIfInBounds_toArray, List.set_cons_zero, List.set_cons_succ]
                  refine wpAnyH_take (i := 9) (v := .agg d.cells.toArray) rfl (by kernel_rfl) (by kernel_rfl) (by kernel_rfl) (fun _ _ _ h => h) (yieldsIf_load_mid (by rfl) 53 (.tmp 56) rfl b2 (o2 + k * 36) rfl d.cells _ (fun w h => h.2.1) Try.underlying53 rfl hz2) hHeld ?_
                  show wpAnyH _ _ _ _ _ _ _ (Act.put _ (some 57) _) _
                  simp only [Act.put, List.setIfInBounds_toArray, List.set_cons_zero, List.set_cons_succ]
                  refine wpAnyH_take (i := 10) (v := .bool false) rfl (by kernel_rfl) (by kernel_rfl) (by kernel_rfl) (fun _ _ _ h => h) (Or.inl ⟨by rfl, fun w h => run_bin_op rfl hm _ _ rfl rfl _ (hq w)⟩) hHeld ?_
                  show wpAnyH _ _ _ _ _ _ _ (Act.put _ (some 58) _) _
                  simp only [Act.put, List.setIfInBounds_toArray, List.set_cons_zero, List.set_cons_succ]
                  refine wpAnyH_done (by kernel_rfl) ?_ _
                  skip
                  go_wp2
                  go_roundw
                  case rel => exact ⟨k + 1, by omega, by go_num, HT, BBX0, SX0, TX0⟩
                  case measure => simp [intOf] <;> omega
                · have b0 : decide (c = d) = false := decide_eq_false h
                  rw [b0] at hq
                  have HT := Lib.hid (HX.out.2 h)
                  clear h b0 HX
                  go_upto_region 6 with fail
                  have hBz : Below wr.heap.size wr wr.drew := below_drewN (Below.refl _ _) 1
                  have R1X0 : Hid (wr.drew.rangeAt b (o + k * 36) c.cells) := Lib.hid (range_below R1.out hBz L1.out)
                  have R2X0 : Hid (wr.drew.rangeAt b2 (o2 + k * 36) d.cells) := Lib.hid (range_below R2.out hBz L2.out)
                  have BBX0 : Hid (Below w.heap.size w wr.drew) := Lib.hid (BB.out.trans (hBz.mono BB.out.size))
                  have SX0 : Hid (Blk wr.drew g 27 [.int .u32 ch, .int .u64 rd, .int .u64 m0, .int .u64 m1, .int .u64 t0, .int .u64 t1, .slice (some ⟨b, o, none⟩) n cap]) := Lib.hid (S.out.below hBz S.out.lt)
                  have TX0 : Hid (Blk wr.drew (g + 1) 27 [.int .u32 ch2, .int .u64 rd2, .int .u64 m02, .int .u64 m12, .int .u64 t02, .int .u64 t12, .slice (some ⟨b2, o2, none⟩) n2 cap2]) := Lib.hid (T.out.below hBz T.out.lt)
                  clear hBz
                  refine wp_region_held_drew (S := fun w' => w'.rangeAt b (o + k * 36) c.cells ∧ w'.rangeAt b2 (o2 + k * 36) d.cells ∧ Blk w' g 27 [.int .u32 ch, .int .u64 rd, .int .u64 m0, .int .u64 m1, .int .u64 t0, .int .u64 t1, .slice (some ⟨b, o, none⟩) n cap] ∧ Blk w' (g + 1) 27 [.int .u32 ch2, .int .u64 rd2, .int .u64 m02, .int .u64 m12, .int .u64 t02, .int .u64 t12, .slice (some ⟨b2, o2, none⟩) n2 cap2]) (by kernel_rfl) (⟨R1X0.out, R2X0.out, SX0.out, TX0.out⟩) (fun hHeld => ?_)
                  generalize wr.drew = X0 at hHeld R1X0 R2X0 BBX0 SX0 TX0 ⊢
                  refine wpAnyH_take (i := 0) (v := .pointer (some ⟨g, 6, none⟩)) rfl (by kernel_rfl) (by kernel_rfl) (by kernel_rfl) (fun _ _ _ h => h) (Or.inl ⟨by rfl, by intro w' h; go_simp⟩) hHeld ?_
                  show wpAnyH _ _ _ _ _ _ _ (Act.put _ (some 48) _) _
                  simp only [Act.put, List.setIfInBounds_toArray, List.set_cons_zero, List.set_cons_succ]
                  refine wpAnyH_take (i := 1) (v := .slice (some ⟨b, o, none⟩) n cap) rfl (by kernel_rfl) (by kernel_rfl) (by kernel_rfl) (fun _ _ _ h => h) (Or.inl ⟨by rfl, by intro w' h; have q := Blk.cell h.2.2.1 6; simp only [List.getElem?_cons_zero, List.getElem?_cons_succ] at q; go_simp⟩) hHeld ?_
                  show wpAnyH _ _ _ _ _ _ _ (Act.put _ (some 49) _) _
                  simp only [Act.put, List.setIfInBounds_toArray, List.set_cons_zero, List.set_cons_succ]
                  refine wpAnyH_take (i := 2) (v := .int .i64 (k : Int)) rfl (by kernel_rfl) (by kernel_rfl) (by kernel_rfl) (fun _ _ _ h => h) (Or.inl ⟨by rfl, fun w _ => by rfl⟩) hHeld ?_
                  show wpAnyH _ _ _ _ _ _ _ (Act.put _ (some 50) _) _
                  simp only [Act.put, List.setIfInBounds_toArray, List.set_cons_zero, List.set_cons_succ]
                  refine wpAnyH_take (i := 3) (v := .pointer (some ⟨b, o + k * 36, none⟩)) rfl (by kernel_rfl) (by kernel_rfl) (by kernel_rfl) (fun _ _ _ h => h) (Or.inl ⟨by rfl, by intro w' h; go_simp⟩) hHeld ?_
                  show wpAnyH _ _ _ _ _ _ _ (Act.put _ (some 51) _) _
                  simp only [Act.put, List.setIfInBounds_toArray, List.set_cons_zero, List.set_cons_succ]
                  refine wpAnyH_take (i := 4) (v := .agg c.cells.toArray) rfl (by kernel_rfl) (by kernel_rfl) (by kernel_rfl) (fun _ _ _ h => h) (yieldsIf_load_mid (by rfl) 53 (.tmp 51) rfl b (o + k * 36) rfl c.cells _ (fun w h => h.1) Try.underlying53 rfl hz1) hHeld ?_
                  show wpAnyH _ _ _ _ _ _ _ (Act.put _ (some 52) _) _
                  simp only [Act.put, List.setIfInBounds_toArray, List.set_cons_zero, List.set_cons_succ]
                  refine wpAnyH_take (i := 5) (v := .pointer (some ⟨g + 1, 6, none⟩)) rfl (by kernel_rfl) (by kernel_rfl) (by kernel_rfl) (fun _ _ _ h => h) (Or.inl ⟨by rfl, by intro w' h; go_simp⟩) hHeld ?_
                  show wpAnyH _ _ _ _ _ _ _ (Act.put _ (some 53) _) _
                  simp only [Act.put, List.setIfInBounds_toArray, List.set_cons_zero, List.set_cons_succ]
                  refine wpAnyH_take (i := 6) (v := .slice (some ⟨b2, o2, none⟩) n2 cap2) rfl (by kernel_rfl) (by kernel_rfl) (by kernel_rfl) (fun _ _ _ h => h) (Or.inl ⟨by rfl, by intro w' h; have q := Blk.cell h.2.2.2 6; simp only [List.getElem?_cons_zero, List.getElem?_cons_succ] at q; go_simp⟩) hHeld ?_
                  show wpAnyH _ _ _ _ _ _ _ (Act.put _ (some 54) _) _
                  simp only [Act.put, List.setIfInBounds_toArray, List.set_cons_zero, List.set_cons_succ]
                  refine wpAnyH_take (i := 7) (v := .int .i64 (k : Int)) rfl (by kernel_rfl) (by kernel_rfl) (by kernel_rfl) (fun _ _ _ h => h) (Or.inl ⟨by rfl, fun w _ => by rfl⟩) hHeld ?_
                  show wpAnyH _ _ _ _ _ _ _ (Act.put _ (some 55) _) _
                  simp only [Act.put, List.setIfInBounds_toArray, List.set_cons_zero, List.set_cons_succ]
                  refine wpAnyH_take (i := 8) (v := .pointer (some ⟨b2, o2 + k * 36, none⟩)) rfl (by kernel_rfl) (by kernel_rfl) (by kernel_rfl) (fun _ _ _ h => h) (Or.inl ⟨by rfl, by intro w' h; go_simp⟩) hHeld ?_
                  show wpAnyH _ _ _ _ _ _ _ (Act.put _ (some 56) _) _
                  simp only [Act.put, List.setIfInBounds_toArray, List.set_cons_zero, List.set_cons_succ]
                  refine wpAnyH_take (i := 9) (v := .agg d.cells.toArray) rfl (by kernel_rfl) (by kernel_rfl) (by kernel_rfl) (fun _ _ _ h => h) (yieldsIf_load_mid (by rfl) 53 (.tmp 56) rfl b2 (o2 + k * 36) rfl d.cells _ (fun w h => h.2.1) Try.underlying53 rfl hz2) hHeld ?_
                  show wpAnyH _ _ _ _ _ _ _ (Act.put _ (some 57) _) _
                  simp only [Act.put, List.setIfInBounds_toArray, List.set_cons_zero, List.set_cons_succ]
                  refine wpAnyH_take (i := 10) (v := .bool true) rfl (by kernel_rfl) (by kernel_rfl) (by kernel_rfl) (fun _ _ _ h => h) (Or.inl ⟨by rfl, fun w h => run_bin_op rfl hm _ _ rfl rfl _ (hq w)⟩) hHeld ?_
                  show wpAnyH _ _ _ _ _ _ _ (Act.put _ (some 58) _) _
                  simp only [Act.put, List.setIfInBounds_toArray, List.set_cons_zero, List.set_cons_succ]
                  refine wpAnyH_done (by kernel_rfl) ?_ _
                  skip
                  go_wp2
                  go_ret
                  exact ⟨by rw [HE.out, decide_eq_false HT.out]; rfl, BBX0.out⟩
              · have HEQ := Lib.hid (same_end HS.out (by rw [HL.out]; omega) (by rw [HL2.out, ← HNN.out]; omega))
                go_wp2
                go_ret
                exact ⟨by rw [HE.out, decide_eq_true HEQ.out]; rfl, HB.out⟩
          · have bn : ((n : Int) != (n2 : Int)) = true := by simpa using (fun h => hnn (by omega) : ¬ (n : Int) = (n2 : Int))
            have HE : Hid (decide ((⟨ch, rd, m0, m1, t0, t1, cs⟩ : St) = (⟨ch2, rd2, m02, m12, t02, t12, ds⟩ : St)) = false) := Lib.hid (decide_eq_false (by rw [St.ext_iff']; intro h; exact hnn (by rw [← HL.out, ← HL2.out, h.2.2.2.2])))
            clear hnn
            go_enter Try.func20, Try.ntmps20
            go_wp2
            go_ret
            exact ⟨by rw [HE.out]; rfl, HB.out⟩
        · have bt : decide (t0 = t02 ∧ t1 = t12) = false := decide_eq_false ht
          have HE : Hid (decide ((⟨ch, rd, m0, m1, t0, t1, cs⟩ : St) = (⟨ch2, rd2, m02, m12, t02, t12, ds⟩ : St)) = false) := Lib.hid (decide_eq_false (by rw [St.ext_iff']; intro h; exact ht h.2.2.2.1))
          clear ht
          go_enter Try.func20, Try.ntmps20
          go_wp2
          go_ret
          exact ⟨by rw [HE.out]; rfl, HB.out⟩
      · have bm : decide (m0 = m02 ∧ m1 = m12) = false := decide_eq_false hm
        have HE : Hid (decide ((⟨ch, rd, m0, m1, t0, t1, cs⟩ : St) = (⟨ch2, rd2, m02, m12, t02, t12, ds⟩ : St)) = false) := Lib.hid (decide_eq_false (by rw [St.ext_iff']; intro h; exact hm h.2.2.1))
        clear hm
        go_enter Try.func20, Try.ntmps20
        go_wp2
        go_ret
        exact ⟨by rw [HE.out]; rfl, HB.out⟩
    · have nrd : (rd != rd2) = true := by simpa using hrd
      have HE : Hid (decide ((⟨ch, rd, m0, m1, t0, t1, cs⟩ : St) = (⟨ch2, rd2, m02, m12, t02, t12, ds⟩ : St)) = false) := Lib.hid (decide_eq_false (by rw [St.ext_iff']; intro h; exact hrd h.2.1))
      clear hrd
      go_enter Try.func20, Try.ntmps20
      go_wp2
      go_ret
      exact ⟨by rw [HE.out]; rfl, HB.out⟩
  · have nch : (ch != ch2) = true := by simpa using hch
    have HE : Hid (decide ((⟨ch, rd, m0, m1, t0, t1, cs⟩ : St) = (⟨ch2, rd2, m02, m12, t02, t12, ds⟩ : St)) = false) := Lib.hid (decide_eq_false (by rw [St.ext_iff']; intro h; exact hch h.1))
    clear hch
    go_enter Try.func20, Try.ntmps20
    go_wp2
    go_ret
    exact ⟨by rw [HE.out]; rfl, HB.out⟩
end Go.Proofs.Ytkiifjkcpangfaa
