/-
  The document's Same, of two webs of the same numbers.
-/
import Derived.Test.YtnnimjaigciedaaWebFr
import Derived.ChangeKeysEq
namespace Go.Proofs.Ytnnimjaigciedaa
open Go.RowKit
set_option linter.unusedVariables false
set_option linter.unusedSimpArgs false

set_option maxRecDepth 100000
theorem info3 : (Try.prog.info? 3).map (fun i => (i.zero, i.size, i.bytes)) = some (some (.int .i64 0), 1, 8) := by kernel_rfl
theorem info66 : (Try.prog.info? 40).map (fun i => (i.zero, i.size, i.bytes)) = some (some (.int .u64 0), 1, 8) := by kernel_rfl
theorem info71 : (Try.prog.info? 45).map (fun i => (i.zero, i.size, i.bytes)) = some (some (.agg #[.int .u64 0, .int .u64 0]), 2, 16) := by kernel_rfl
theorem eq74 (a b : Int) (w : World) : (Op.equalIn 9999 48 (.agg #[.int .i64 a, .int .i64 b]) (.agg #[.int .i64 a, .int .i64 b])).run Try.prog w = .ok true w := by
  obtain ⟨i0, hi, hz0, hz1, hz2⟩ := info_parts info3
  rw [run_equalIn_array (P := Try.prog) w 9998 _ _ Try.underlying48 hi, show Try.prog.cellsOf 3 = 1 by kernel_rfl]
  have p0 : ∀ w, (Go.part 3 #[.int .i64 a, .int .i64 b] (0 * 1)).run Try.prog w = .ok (.int .i64 a) w := fun _ => by kernel_rfl
  have p1 : ∀ w, (Go.part 3 #[.int .i64 a, .int .i64 b] (1 * 1)).run Try.prog w = .ok (.int .i64 b) w := fun _ => by kernel_rfl
  have q : ∀ (x : Int) w, (Op.equalIn 9998 3 (.int .i64 x) (.int .i64 x)).run Try.prog w = .ok true w := fun x w => by rw [run_equalIn_int (P := Try.prog) w 9997 3 .i64 .i64 x x Try.underlying3]; simp
  rw [show List.range 2 = [0, 1] from rfl]
  simp only [Op.eqItems, Sem.run_bind, p0, p1, q, Result.andThen_ok, Bool.not_true, Bool.false_eq_true, if_false]
  rfl
theorem eq75 (a b : Int) (w : World) : (Op.equalIn 9999 49 (.agg #[.int .u64 a, .int .u64 b]) (.agg #[.int .u64 a, .int .u64 b])).run Try.prog w = .ok true w := by
  obtain ⟨i0, hi, hz0, hz1, hz2⟩ := info_parts info66
  rw [run_equalIn_array (P := Try.prog) w 9998 _ _ Try.underlying49 hi, show Try.prog.cellsOf 40 = 1 by kernel_rfl]
  have p0 : ∀ w, (Go.part 40 #[.int .u64 a, .int .u64 b] (0 * 1)).run Try.prog w = .ok (.int .u64 a) w := fun _ => by kernel_rfl
  have p1 : ∀ w, (Go.part 40 #[.int .u64 a, .int .u64 b] (1 * 1)).run Try.prog w = .ok (.int .u64 b) w := fun _ => by kernel_rfl
  have q : ∀ (x : Int) w, (Op.equalIn 9998 40 (.int .u64 x) (.int .u64 x)).run Try.prog w = .ok true w := fun x w => by rw [run_equalIn_int (P := Try.prog) w 9997 40 .u64 .u64 x x Try.underlying40]; simp
  rw [show List.range 2 = [0, 1] from rfl]
  simp only [Op.eqItems, Sem.run_bind, p0, p1, q, Result.andThen_ok, Bool.not_true, Bool.false_eq_true, if_false]
  rfl
theorem eq107 (a b c d : Int) (w : World) : (Op.equalIn 9999 100 (.agg #[.int .u64 a, .int .u64 b, .int .u64 c, .int .u64 d]) (.agg #[.int .u64 a, .int .u64 b, .int .u64 c, .int .u64 d])).run Try.prog w = .ok true w := by
  obtain ⟨i0, hi, hz0, hz1, hz2⟩ := info_parts info71
  rw [run_equalIn_array (P := Try.prog) w 9998 _ _ Try.underlying100 hi, show Try.prog.cellsOf 45 = 2 by kernel_rfl]
  have p0 : ∀ w, (Go.part 45 #[.int .u64 a, .int .u64 b, .int .u64 c, .int .u64 d] (0 * 2)).run Try.prog w = .ok (.agg #[.int .u64 a, .int .u64 b]) w := fun _ => by kernel_rfl
  have p1 : ∀ w, (Go.part 45 #[.int .u64 a, .int .u64 b, .int .u64 c, .int .u64 d] (1 * 2)).run Try.prog w = .ok (.agg #[.int .u64 c, .int .u64 d]) w := fun _ => by kernel_rfl
  have q : ∀ (x y : Int) w, (Op.equalIn 9998 45 (.agg #[.int .u64 x, .int .u64 y]) (.agg #[.int .u64 x, .int .u64 y])).run Try.prog w = .ok true w := fun x y w => by go_simp
  rw [show List.range 2 = [0, 1] from rfl]
  simp only [Op.eqItems, Sem.run_bind, p0, p1, q, Result.andThen_ok, Bool.not_true, Bool.false_eq_true, if_false]
  rfl
theorem neq109 (pe qe ce de fe ge he ie : Int) (w : World) : (binOp .neq 102 (.agg #[.int .i64 pe, .int .i64 qe, .int .u64 ce, .int .u64 de, .int .u64 fe, .int .u64 ge, .int .u64 he, .int .u64 ie]) (.agg #[.int .i64 pe, .int .i64 qe, .int .u64 ce, .int .u64 de, .int .u64 fe, .int .u64 ge, .int .u64 he, .int .u64 ie])).run Try.prog w = .ok (.bool false) w := by
  rw [run_neq_struct]
  have h1 := eq74
  have h2 := eq75
  have h3 := eq107
  go_simp

set_option maxRecDepth 100000 in
set_option maxHeartbeats 4000000 in
theorem wsame_any (sa : Option Addr) (sl sc : Nat) (ea : Option Addr) (el ec : Nat) (ta : Option Addr) (tc : Nat) (fa : Option Addr) (fc : Nat) (sp : List (Int × Int)) (es : List Ed) (w : World) (hS : SpotRow w sa sp) (hE : EdgeRow w ea es) (hT : SpotRow w ta sp) (hF : EdgeRow w fa es) (hsl : sp.length = sl) (hel : es.length = el) (hs20 : sl ≤ 20) (he30 : el ≤ 30) :
    Calls Try.prog 31 #[.agg #[.slice sa sl sc, .slice ea el ec], .agg #[.slice ta sl tc, .slice fa el fc]] w fun r w' => r = .returned (.bool true) ∧ Below w.heap.size w w' := by
  have HS := Lib.hid hS
  have HE := Lib.hid hE
  have HT := Lib.hid hT
  have HF := Lib.hid hF
  have HSL := Lib.hid hsl
  have HEL := Lib.hid hel
  have HNQ := Lib.hid neq109
  clear hS hE hsl hel hT hF
  go_enter Try.func31, Try.ntmps31
  go_wp2
  have B0 : Hid (Blk ((w.alloc (.cells #[.slice sa sl sc, .slice ea el ec] 25)).alloc (.cells #[.slice ta sl tc, .slice fa el fc] 25)) w.heap.size 25 [.slice sa sl sc, .slice ea el ec]) := Lib.hid ((Blk.mk_ rfl).alloc _)
  have C0 : Hid (Blk ((w.alloc (.cells #[.slice sa sl sc, .slice ea el ec] 25)).alloc (.cells #[.slice ta sl tc, .slice fa el fc] 25)) (w.heap.size + 1) 25 [.slice ta sl tc, .slice fa el fc]) := Lib.hid (Blk.mk_ (by simp))
  have HW : Hid (Below w.heap.size w ((w.alloc (.cells #[.slice sa sl sc, .slice ea el ec] 25)).alloc (.cells #[.slice ta sl tc, .slice fa el fc] 25))) := Lib.hid (((Below.refl _ _).alloc (Nat.le_refl _) _).alloc (by simp) _)
  generalize (w.alloc (.cells #[.slice sa sl sc, .slice ea el ec] 25)).alloc (.cells #[.slice ta sl tc, .slice fa el fc] 25) = W at B0 C0 HW ⊢
  go_loopw [5] (fun i wr => ∃ (k : Nat), k ≤ sl ∧ i = .int .i64 k ∧ Hid (Blk wr w.heap.size 25 [.slice sa sl sc, .slice ea el ec]) ∧ Hid (Blk wr (w.heap.size + 1) 25 [.slice ta sl tc, .slice fa el fc]) ∧ Hid (Below w.heap.size w wr)) (fun i _ => sl - (intOf i).toNat)
  case atStart => exact ⟨0, Nat.zero_le _, rfl, B0, C0, HW⟩
  case round =>
    clear B0 C0 HW
    obtain ⟨k, hk, rfl, B0, C0, HB⟩ := hrel
    have k1 := B0.out.cell 0
    have k2 := B0.out.cell 1
    have k3 := C0.out.cell 0
    have k4 := C0.out.cell 1
    simp only [List.getElem?_cons_zero, List.getElem?_cons_succ] at k1 k2 k3 k4
    by_cases hlt : k < sl
    · obtain ⟨z, hz⟩ : ∃ z, sp.getD k (0, 0) = z := ⟨_, rfl⟩
      obtain ⟨u, v⟩ := z
      rcases HS.out with h0 | ⟨b, o, rfl, hb, hc⟩
      · exfalso; have h := HSL.out; rw [h0] at h; simp at h; omega
      · rcases HT.out with h0 | ⟨b2, o2, rfl, hb2, hd⟩
        · exfalso; have h := HSL.out; rw [h0] at h; simp at h; omega
        · obtain ⟨c1, c2⟩ := hc k (by rw [HSL.out]; exact hlt)
          obtain ⟨d1, d2⟩ := hd k (by rw [HSL.out]; exact hlt)
          rw [hz] at c1 c2 d1 d2
          clear hz hc hd
          simp only at c1 c2 d1 d2
          rw [← HB.out.cell (p := ⟨b, o + k * 2, none⟩) hb] at c1
          rw [← HB.out.cell (p := ⟨b, o + k * 2 + 1, none⟩) hb] at c2
          rw [← HB.out.cell (p := ⟨b2, o2 + k * 2, none⟩) hb2] at d1
          rw [← HB.out.cell (p := ⟨b2, o2 + k * 2 + 1, none⟩) hb2] at d2
          have g1 : (0 : Int) ≤ (k : Int) := by omega
          have g2 : (k : Int) < (sl : Int) := by omega
          go_upto_region 6 with fail
          go_quiet (fail)
          go_wp2
          go_roundw
          case rel => exact ⟨k + 1, by omega, by go_num, Lib.hid (Blk.drewN B0.out nq), Lib.hid (Blk.drewN C0.out nq), Lib.hid (below_drewN HB.out nq)⟩
          case measure => simp [intOf] <;> omega
    · go_wp2
      go_loopw [6] (fun i wr => ∃ (k : Nat), k ≤ el ∧ i = .int .i64 k ∧ Hid (Blk wr w.heap.size 25 [.slice sa sl sc, .slice ea el ec]) ∧ Hid (Blk wr (w.heap.size + 1) 25 [.slice ta sl tc, .slice fa el fc]) ∧ Hid (Below w.heap.size w wr)) (fun i _ => el - (intOf i).toNat)
      case atStart => exact ⟨0, Nat.zero_le _, rfl, B0, C0, HB⟩
      case round =>
        clear B0 C0 HB k1 k2 k3 k4
        obtain ⟨k, hk, rfl, B0, C0, HB⟩ := hrel
        have k1 := B0.out.cell 0
        have k2 := B0.out.cell 1
        have k3 := C0.out.cell 0
        have k4 := C0.out.cell 1
        simp only [List.getElem?_cons_zero, List.getElem?_cons_succ] at k1 k2 k3 k4
        by_cases hlt : k < el
        · obtain ⟨z, hz⟩ : ∃ z, es.getD k ed0 = z := ⟨_, rfl⟩
          obtain ⟨pe, qe, ce, de, fe, ge, he, ie⟩ := z
          rcases HE.out with h0 | ⟨b, o, rfl, hb, hc⟩
          · exfalso; have h := HEL.out; rw [h0] at h; simp at h; omega
          rcases HF.out with h0 | ⟨b2, o2, rfl, hb2, hd⟩
          · exfalso; have h := HEL.out; rw [h0] at h; simp at h; omega
          · have hcs := hc k (by rw [HEL.out]; exact hlt)
            have hds := hd k (by rw [HEL.out]; exact hlt)
            rw [hz] at hcs hds
            clear hz hc hd
            have c0 : wr.cell? ⟨b, o + k * 8, none⟩ = some (.int .i64 pe) := (HB.out.cell (p := ⟨b, o + k * 8, none⟩) hb).trans (hcs 0 _ rfl)
            have c1 : wr.cell? ⟨b, o + k * 8 + 1, none⟩ = some (.int .i64 qe) := (HB.out.cell (p := ⟨b, o + k * 8 + 1, none⟩) hb).trans (hcs 1 _ rfl)
            have c2 : wr.cell? ⟨b, o + k * 8 + 2, none⟩ = some (.int .u64 ce) := (HB.out.cell (p := ⟨b, o + k * 8 + 2, none⟩) hb).trans (hcs 2 _ rfl)
            have c3 : wr.cell? ⟨b, o + k * 8 + 3, none⟩ = some (.int .u64 de) := (HB.out.cell (p := ⟨b, o + k * 8 + 3, none⟩) hb).trans (hcs 3 _ rfl)
            have c4 : wr.cell? ⟨b, o + k * 8 + 4, none⟩ = some (.int .u64 fe) := (HB.out.cell (p := ⟨b, o + k * 8 + 4, none⟩) hb).trans (hcs 4 _ rfl)
            have c5 : wr.cell? ⟨b, o + k * 8 + 5, none⟩ = some (.int .u64 ge) := (HB.out.cell (p := ⟨b, o + k * 8 + 5, none⟩) hb).trans (hcs 5 _ rfl)
            have c6 : wr.cell? ⟨b, o + k * 8 + 6, none⟩ = some (.int .u64 he) := (HB.out.cell (p := ⟨b, o + k * 8 + 6, none⟩) hb).trans (hcs 6 _ rfl)
            have c7 : wr.cell? ⟨b, o + k * 8 + 7, none⟩ = some (.int .u64 ie) := (HB.out.cell (p := ⟨b, o + k * 8 + 7, none⟩) hb).trans (hcs 7 _ rfl)
            have d0 : wr.cell? ⟨b2, o2 + k * 8, none⟩ = some (.int .i64 pe) := (HB.out.cell (p := ⟨b2, o2 + k * 8, none⟩) hb2).trans (hds 0 _ rfl)
            have d1 : wr.cell? ⟨b2, o2 + k * 8 + 1, none⟩ = some (.int .i64 qe) := (HB.out.cell (p := ⟨b2, o2 + k * 8 + 1, none⟩) hb2).trans (hds 1 _ rfl)
            have d2 : wr.cell? ⟨b2, o2 + k * 8 + 2, none⟩ = some (.int .u64 ce) := (HB.out.cell (p := ⟨b2, o2 + k * 8 + 2, none⟩) hb2).trans (hds 2 _ rfl)
            have d3 : wr.cell? ⟨b2, o2 + k * 8 + 3, none⟩ = some (.int .u64 de) := (HB.out.cell (p := ⟨b2, o2 + k * 8 + 3, none⟩) hb2).trans (hds 3 _ rfl)
            have d4 : wr.cell? ⟨b2, o2 + k * 8 + 4, none⟩ = some (.int .u64 fe) := (HB.out.cell (p := ⟨b2, o2 + k * 8 + 4, none⟩) hb2).trans (hds 4 _ rfl)
            have d5 : wr.cell? ⟨b2, o2 + k * 8 + 5, none⟩ = some (.int .u64 ge) := (HB.out.cell (p := ⟨b2, o2 + k * 8 + 5, none⟩) hb2).trans (hds 5 _ rfl)
            have d6 : wr.cell? ⟨b2, o2 + k * 8 + 6, none⟩ = some (.int .u64 he) := (HB.out.cell (p := ⟨b2, o2 + k * 8 + 6, none⟩) hb2).trans (hds 6 _ rfl)
            have d7 : wr.cell? ⟨b2, o2 + k * 8 + 7, none⟩ = some (.int .u64 ie) := (HB.out.cell (p := ⟨b2, o2 + k * 8 + 7, none⟩) hb2).trans (hds 7 _ rfl)
            clear hcs hds
            have g1 : (0 : Int) ≤ (k : Int) := by omega
            have g2 : (k : Int) < (el : Int) := by omega
            have hnq := HNQ.out pe qe ce de fe ge he ie
            go_upto_region 11 with fail
            go_quiet (fail)
            go_wp2
            go_roundw
            case rel => exact ⟨k + 1, by omega, by go_num, Lib.hid (Blk.drewN B0.out nq), Lib.hid (Blk.drewN C0.out nq), Lib.hid (below_drewN HB.out nq)⟩
            case measure => simp [intOf] <;> omega
        · go_wp2
          go_ret
          exact ⟨rfl, HB.out⟩
end Go.Proofs.Ytnnimjaigciedaa
