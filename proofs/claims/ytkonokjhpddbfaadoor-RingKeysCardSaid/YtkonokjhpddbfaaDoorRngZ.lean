/-
  The walk of tollhouselaw05.RingKeys (function 9): up to its loop, and the loop's round.
-/
import Derived.Test.YtkonokjhpddbfaaDoorRngY
namespace Go.Proofs.YtkonokjhpddbfaaDoor
open Go.RowKit
set_option linter.unusedVariables false

/-- Whole numbers that came in. -/
def IntsR (w : World) (k : IntKind) (top : Nat) (A : Option Addr) (len : Nat) : Prop :=
  len = 0 ∨ ∃ g o, A = some ⟨g, o, none⟩ ∧ g < w.heap.size ∧ ∀ i, i < len → ∃ n : Nat, n < top ∧ w.cell? ⟨g, o + i, none⟩ = some (.int k (n : Int))
theorem OutAt.rowsR {w : World} {base go co : Nat} {seed : List Nat} {tall : Nat} (h : OutAt w base (.slice (some ⟨go, 0, none⟩) (tall + 1) co) seed tall (tall + 1)) : RowsR w go seed tall := by
  obtain ⟨go', co', e, _, _, _, h1⟩ := h.rows
  injection e with e1
  injection e1 with e1
  injection e1 with e1
  rw [e1]
  exact h1
theorem info4f : (Tryd.prog.info? 4).map (fun i => (i.zero, i.size, i.bytes)) = some (some (.bool false), 1, 1) := by kernel_rfl
theorem made_bools (n : Nat) : (madeCells #[Value.bool false] n).toList = List.replicate n (.bool false) := by
  unfold madeCells
  rw [Array.toList_map, Array.toList_range]
  apply List.ext_getElem?
  intro i
  rw [List.getElem?_map]
  rcases Nat.lt_or_ge i n with hi | hi
  · rw [List.getElem?_range hi, Option.map_some, List.getElem?_replicate, if_pos hi]
    have e : i % (#[Value.bool false] : Array Value).size = 0 := Nat.mod_one i
    rw [e]
    rfl
  · rw [List.getElem?_eq_none (by simpa using hi), List.getElem?_eq_none (by simpa using hi)]
    rfl
set_option maxRecDepth 100000 in
set_option maxHeartbeats 4000000 in
theorem ringKeys_core (seed d : List Nat) (tall : Nat) (ka ba : Option Addr) (kl kc bl bc : Nat) (w : World) (HT : Hid (Tab w)) (HL : Hid (seed.length = 32)) (HP : Hid (∀ x ∈ seed, x < 256)) (HK : Hid (IntsR w .u32 4294967296 ka kl)) (HKM : Hid (kl ≤ 9223372036854775807)) (HB : Hid (IntsR w .u8 256 ba bl)) (HBM : Hid (bl ≤ 9223372036854775807)) (HDL : Hid (d.length = 32)) (HDP : Hid (∀ x ∈ d, x < 256)) (ht : tall ≤ 3) :
    Calls Tryd.prog 9 #[.agg (w8 seed).toArray, .int .i64 (tall : Int), .slice ka kl kc, .slice ba bl bc, .agg (w8 d).toArray] w fun e' w' => e' = .returned (.bool true) ∧ Below w.heap.size w w' := by
  have t1 : (tall : Int) ≤ 3 := by omega
  have hpw : pw tall ≤ 8 := Nat.pow_le_pow_right (by omega) ht
  have HIS : Hid ((Tryd.prog.info? 29).map (·.size) = some (w8 seed).length) := Lib.hid (by rw [w8_length, HL.out]; exact info29)
  have HID : Hid ((Tryd.prog.info? 29).map (·.size) = some (w8 d).length) := Lib.hid (by rw [w8_length, HDL.out]; exact info29)
  have HNE : Hid (∀ w' : World, (binOp .neq 36 (.agg (w8 (rootN seed tall)).toArray) (.agg (w8 (rootN seed tall)).toArray)).run Tryd.prog w' = .ok (.bool false) w') := Lib.hid fun W => by
    have h := neq_row Tryd.underlying36 (rootN seed tall) (rootN seed tall) (rootN_length _ _) (rootN_length _ _) W
    rw [h]
    simp
  have HS5 : Hid ((Tryd.prog.info? 94).map (·.size) = some zsig.toArray.size) := Lib.hid (by rw [List.size_toArray, zsig_length]; exact info94)
  have HO5 := Lib.hid (all_oneCell_toArray zsig_one)
  have HS9 : Hid ((Tryd.prog.info? 99).map (·.size) = some zsig.toArray.size) := Lib.hid (by rw [List.size_toArray, zsig_length]; exact info99)
  have HZ9 : Hid (Tryd.zeroCells99.size = zsig.toArray.size) := Lib.hid (by rw [zsig_arr9])
  have HO9 := Lib.hid (all_oneCell_toArray zsig_one)
  obtain ⟨i4, hi4, hy0, hy1, hy2⟩ := info_parts info4f
  go_enter Tryd.func9, Tryd.ntmps9
  go_upto_region 1 with fail
  have SV : Hid (Blk ((w.alloc (.cells (w8 seed).toArray 29)).alloc (.cells (w8 d).toArray 29)) w.heap.size 29 (w8 seed)) := Lib.hid (by
    have h := (Blk.new w 29 (w8 seed)).alloc (.cells (w8 d).toArray 29)
    exact h)
  have DV : Hid (Blk ((w.alloc (.cells (w8 seed).toArray 29)).alloc (.cells (w8 d).toArray 29)) (w.heap.size + 1) 29 (w8 d)) := Lib.hid (by
    have h := Blk.new (w.alloc (.cells (w8 seed).toArray 29)) 29 (w8 d)
    rw [World.size_alloc] at h
    exact h)
  have BV : Hid (Below w.heap.size w ((w.alloc (.cells (w8 seed).toArray 29)).alloc (.cells (w8 d).toArray 29))) := Lib.hid (((Below.refl _ _).alloc (Nat.le_refl _) _).alloc (by simp) _)
  generalize ((w.alloc (.cells (w8 seed).toArray 29)).alloc (.cells (w8 d).toArray 29)) = V at SV DV BV ⊢
  have hv0 : w.heap.size < V.heap.size := SV.out.lt
  have hv2 : w.heap.size + 1 < V.heap.size := DV.out.lt
  have HRS := Lib.hid SV.out.all
  go_wp2_with (first | (refine wpList_load_mid rfl 29 (.tmp 5) rfl w.heap.size 0 rfl (w8 seed) _ HRS.out Tryd.underlying29 rfl HIS.out ?_))
  refine (new_ring seed tall V (Lib.hid (HT.out.below BV.out HT.out.lt)) HL HP (by omega)).mono ?_
  rintro e U1 ⟨g, v, rfl, hR, hB⟩
  have hgg : V.heap.size ≤ g := hR.bas
  have hR2 := hR.mono (Nat.le_of_lt hv0)
  have SU1 : Hid (Blk U1 w.heap.size 29 (w8 seed)) := Lib.hid (SV.out.below hB SV.out.lt)
  have DU1 : Hid (Blk U1 (w.heap.size + 1) 29 (w8 d)) := Lib.hid (DV.out.below hB DV.out.lt)
  have BU1 : Hid (Below w.heap.size w U1) := Lib.hid (BV.out.trans (hB.mono BV.out.size))
  clear SV DV BV
  have RU1 : Hid (RingAt U1 w.heap.size g seed tall (List.replicate 256 false) v) := Lib.hid (hR2)
  clear hB hR hR2 HRS
  have hgg2 : w.heap.size + 1 < g := by omega
  go_wp2_with fail
  refine (refright_yes (tall : Int) U1 (by omega) (by omega)).mono ?_
  rintro e U2 ⟨rfl, hB⟩
  have SU2 : Hid (Blk U2 w.heap.size 29 (w8 seed)) := Lib.hid (SU1.out.below hB SU1.out.lt)
  have DU2 : Hid (Blk U2 (w.heap.size + 1) 29 (w8 d)) := Lib.hid (DU1.out.below hB DU1.out.lt)
  have BU2 : Hid (Below w.heap.size w U2) := Lib.hid (BU1.out.trans (hB.mono BU1.out.size))
  have RU2 : Hid (RingAt U2 w.heap.size g seed tall (List.replicate 256 false) v) := Lib.hid (RU1.out.below hB)
  clear SU1 DU1 BU1 RU1
  clear hB
  go_wp2_with fail
  refine (make_any U2).mono ?_
  rintro e U3 ⟨rfl, hB⟩
  have SU3 : Hid (Blk U3 w.heap.size 29 (w8 seed)) := Lib.hid (SU2.out.below hB SU2.out.lt)
  have DU3 : Hid (Blk U3 (w.heap.size + 1) 29 (w8 d)) := Lib.hid (DU2.out.below hB DU2.out.lt)
  have BU3 : Hid (Below w.heap.size w U3) := Lib.hid (BU2.out.trans (hB.mono BU2.out.size))
  have RU3 : Hid (RingAt U3 w.heap.size g seed tall (List.replicate 256 false) v) := Lib.hid (RU2.out.below hB)
  clear SU2 DU2 BU2 RU2
  clear hB
  go_upto_region 7 with fail
  have hB : Below U3.heap.size U3 (U3.alloc (.cells #[.string firstText, .string roundText] 40)) := (Below.refl _ _).alloc (Nat.le_refl _) _
  have SU4 : Hid (Blk (U3.alloc (.cells #[.string firstText, .string roundText] 40)) w.heap.size 29 (w8 seed)) := Lib.hid (SU3.out.below hB SU3.out.lt)
  have DU4 : Hid (Blk (U3.alloc (.cells #[.string firstText, .string roundText] 40)) (w.heap.size + 1) 29 (w8 d)) := Lib.hid (DU3.out.below hB DU3.out.lt)
  have BU4 : Hid (Below w.heap.size w (U3.alloc (.cells #[.string firstText, .string roundText] 40))) := Lib.hid (BU3.out.trans (hB.mono BU3.out.size))
  have RU4 : Hid (RingAt (U3.alloc (.cells #[.string firstText, .string roundText] 40)) w.heap.size g seed tall (List.replicate 256 false) v) := Lib.hid (RU3.out.below hB)
  have AU4 : Hid (Blk (U3.alloc (.cells #[.string firstText, .string roundText] 40)) U3.heap.size 40 [.string firstText, .string roundText]) := Lib.hid (Blk.new _ _ _)
  have HGA : Hid (w.heap.size + 2 ≤ U3.heap.size ∧ g < U3.heap.size) := Lib.hid ⟨by have := DU3.out.lt; omega, RU3.out.blk.lt⟩
  clear hB SU3 DU3 BU3 RU3
  generalize (U3.alloc (.cells #[.string firstText, .string roundText] 40)) = U4 at SU4 DU4 BU4 RU4 AU4 ⊢
  generalize U3.heap.size = ga at AU4 HGA ⊢
  have HRS := Lib.hid SU4.out.all
  have HRA := Lib.hid AU4.out.all
  have hga : w.heap.size + 1 < ga ∧ g < ga := by have := HGA.out; omega
  go_wp2_with (first | (refine wpList_load_mid rfl 29 (.tmp 5) rfl w.heap.size 0 rfl (w8 seed) _ HRS.out Tryd.underlying29 rfl HIS.out ?_) | (refine wpList_load_mid rfl 40 (.tmp 13) rfl ga 0 rfl [.string firstText, .string roundText] _ HRA.out Tryd.underlying40 rfl info40 ?_))
  refine (rrows_any firstText roundText seed tall U4 (Lib.hid texts) HL HP (by omega)).mono ?_
  rintro e U5 ⟨rv, rfl, hO2, hB⟩
  obtain ⟨go, co, rfl, hgo, hgb, hco, hRR⟩ := hO2.rows
  have hO3 := hO2.mono BU4.out.size
  obtain ⟨gt, ct, hcT, hctn, hctm, hrT⟩ := hRR tall (Nat.le_refl _)
  rw [Nat.sub_self] at hcT hctn hrT
  have hrT0 := hrT 0 (by decide)
  rw [Nat.zero_mul] at hrT0
  have SU5 : Hid (Blk U5 w.heap.size 29 (w8 seed)) := Lib.hid (SU4.out.below hB SU4.out.lt)
  have DU5 : Hid (Blk U5 (w.heap.size + 1) 29 (w8 d)) := Lib.hid (DU4.out.below hB DU4.out.lt)
  have BU5 : Hid (Below w.heap.size w U5) := Lib.hid (BU4.out.trans (hB.mono BU4.out.size))
  have RU5 : Hid (RingAt U5 w.heap.size g seed tall (List.replicate 256 false) v) := Lib.hid (RU4.out.below hB)
  have AU5 : Hid (Blk U5 ga 40 [.string firstText, .string roundText]) := Lib.hid (AU4.out.below hB AU4.out.lt)
  clear SU4 DU4 BU4 RU4 AU4
  have OU5 : Hid (OutAt U5 w.heap.size (.slice (some ⟨go, 0, none⟩) (tall + 1) co) seed tall (tall + 1)) := Lib.hid (hO3)
  have CU5 : Hid (U5.cell? ⟨go, tall, none⟩ = some (.slice (some ⟨gt, 0, none⟩) 1 ct)) := Lib.hid (hcT)
  have FU5 : Hid (U5.rangeAt gt 0 (w8 (rootN seed tall))) := Lib.hid (hrT0)
  clear hB hO2 hO3 hRR hcT hrT hrT0 HRS HRA hgo hgb
  go_upto_region 8 with fail
  have hBz : Below U5.heap.size U5 U5.drew := below_drewN (Below.refl _ _) 1
  have SX0 : Hid (Blk U5.drew w.heap.size 29 (w8 seed)) := Lib.hid (SU5.out.below hBz SU5.out.lt)
  have DX0 : Hid (Blk U5.drew (w.heap.size + 1) 29 (w8 d)) := Lib.hid (DU5.out.below hBz DU5.out.lt)
  have BX0 : Hid (Below w.heap.size w U5.drew) := Lib.hid (BU5.out.trans (hBz.mono BU5.out.size))
  have RX0 : Hid (RingAt U5.drew w.heap.size g seed tall (List.replicate 256 false) v) := Lib.hid (RU5.out.below hBz)
  have AX0 : Hid (Blk U5.drew ga 40 [.string firstText, .string roundText]) := Lib.hid (AU5.out.below hBz AU5.out.lt)
  have OX0 : Hid (OutAt U5.drew w.heap.size (.slice (some ⟨go, 0, none⟩) (tall + 1) co) seed tall (tall + 1)) := Lib.hid (OU5.out.below hBz)
  have CX0 : Hid (U5.drew.cell? ⟨go, tall, none⟩ = some (.slice (some ⟨gt, 0, none⟩) 1 ct)) := Lib.hid ((hBz.cell (p := ⟨go, tall, none⟩) (World.block_lt_of_cell? _ _ CU5.out)).trans CU5.out)
  have FX0 : Hid (U5.drew.rangeAt gt 0 (w8 (rootN seed tall))) := Lib.hid (fun j u hu => (hBz.cell (p := ⟨gt, 0 + j, none⟩) (World.block_lt_of_cell? _ _ (FU5.out j u hu))).trans (FU5.out j u hu))
  clear hBz
  refine wp_region_held_drew (S := fun w' => w'.cell? ⟨go, tall, none⟩ = some (.slice (some ⟨gt, 0, none⟩) 1 ct) ∧ w'.rangeAt gt 0 (w8 (rootN seed tall))) (by kernel_rfl) (⟨CX0.out, FX0.out⟩) (fun hHeld => ?_)
  generalize U5.drew = X0 at hHeld SX0 DX0 BX0 RX0 AX0 OX0 CX0 FX0 ⊢
  refine wpAnyH_take (i := 0) (v := .int .i64 0) rfl (by kernel_rfl) (by kernel_rfl) (by kernel_rfl) (fun _ _ _ h => h) (Or.inl ⟨by rfl, fun w _ => by rfl⟩) hHeld ?_
  show wpAnyH _ _ _ _ _ _ _ (Act.put _ (some 53) _) _
  simp only [Act.put, List.setIfInBounds_toArray, List.set_cons_zero, List.set_cons_succ]
  refine wpAnyH_take (i := 1) (v := .bool false) rfl (by kernel_rfl) (by kernel_rfl) (by kernel_rfl) (fun _ _ _ h => h) (Or.inl ⟨by rfl, by intro w' h; go_simp⟩) hHeld ?_
  show wpAnyH _ _ _ _ _ _ _ (Act.put _ (some 54) _) _
  simp only [Act.put, List.setIfInBounds_toArray, List.set_cons_zero, List.set_cons_succ]
  refine wpAnyH_take (i := 2) (v := .bool false) rfl (by kernel_rfl) (by kernel_rfl) (by kernel_rfl) (fun _ _ _ h => h) (Or.inl ⟨by rfl, fun w _ => by rfl⟩) hHeld ?_
  show wpAnyH _ _ _ _ _ _ _ (Act.put _ (some 55) _) _
  simp only [Act.put, List.setIfInBounds_toArray, List.set_cons_zero, List.set_cons_succ]
  refine wpAnyH_take (i := 3) (v := .pointer (some ⟨g, 0, none⟩)) rfl (by kernel_rfl) (by kernel_rfl) (by kernel_rfl) (fun _ _ _ h => h) (Or.inl ⟨by rfl, fun w _ => by rfl⟩) hHeld ?_
  show wpAnyH _ _ _ _ _ _ _ (Act.put _ (some 56) _) _
  simp only [Act.put, List.setIfInBounds_toArray, List.set_cons_zero, List.set_cons_succ]
  refine wpAnyH_take (i := 5) (v := .slice (some ⟨go, 0, none⟩) (tall + 1) co) rfl (by kernel_rfl) (by kernel_rfl) (by kernel_rfl) (fun _ _ _ h => h) (Or.inl ⟨by rfl, fun w _ => by rfl⟩) hHeld ?_
  show wpAnyH _ _ _ _ _ _ _ (Act.put _ (some 58) _) _
  simp only [Act.put, List.setIfInBounds_toArray, List.set_cons_zero, List.set_cons_succ]
  refine wpAnyH_take (i := 6) (v := .int .i64 (tall : Int)) rfl (by kernel_rfl) (by kernel_rfl) (by kernel_rfl) (fun _ _ _ h => h) (Or.inl ⟨by rfl, fun w _ => by rfl⟩) hHeld ?_
  show wpAnyH _ _ _ _ _ _ _ (Act.put _ (some 59) _) _
  simp only [Act.put, List.setIfInBounds_toArray, List.set_cons_zero, List.set_cons_succ]
  refine wpAnyH_take (i := 7) (v := .pointer (some ⟨go, tall, none⟩)) rfl (by kernel_rfl) (by kernel_rfl) (by kernel_rfl) (fun _ _ _ h => h) (Or.inl ⟨by rfl, by intro w' h; go_simp; first | done | (intro hneg; omega)⟩) hHeld ?_
  show wpAnyH _ _ _ _ _ _ _ (Act.put _ (some 60) _) _
  simp only [Act.put, List.setIfInBounds_toArray, List.set_cons_zero, List.set_cons_succ]
  refine wpAnyH_take (i := 8) (v := .slice (some ⟨gt, 0, none⟩) 1 ct) rfl (by kernel_rfl) (by kernel_rfl) (by kernel_rfl) (fun _ _ _ h => h) (Or.inl ⟨by rfl, by intro w' h; have q9 := h.1; go_simp⟩) hHeld ?_
  show wpAnyH _ _ _ _ _ _ _ (Act.put _ (some 61) _) _
  simp only [Act.put, List.setIfInBounds_toArray, List.set_cons_zero, List.set_cons_succ]
  refine wpAnyH_take (i := 9) (v := .pointer (some ⟨gt, 0, none⟩)) rfl (by kernel_rfl) (by kernel_rfl) (by kernel_rfl) (fun _ _ _ h => h) (Or.inl ⟨by rfl, by intro w' h; go_simp⟩) hHeld ?_
  show wpAnyH _ _ _ _ _ _ _ (Act.put _ (some 62) _) _
  simp only [Act.put, List.setIfInBounds_toArray, List.set_cons_zero, List.set_cons_succ]
  refine wpAnyH_take (i := 10) (v := .agg (w8 (rootN seed tall)).toArray) rfl (by kernel_rfl) (by kernel_rfl) (by kernel_rfl) (fun _ _ _ h => h) (yieldsIf_load_mid (by rfl) 29 (.tmp 62) rfl gt 0 rfl (w8 (rootN seed tall)) _ (fun w' h => h.2) Tryd.underlying29 rfl (by rw [w8_length, rootN_length]; exact info29)) hHeld ?_
  show wpAnyH _ _ _ _ _ _ _ (Act.put _ (some 63) _) _
  simp only [Act.put, List.setIfInBounds_toArray, List.set_cons_zero, List.set_cons_succ]
  refine wpAnyH_ready (rs := [4]) (by kernel_rfl) (by simp) ?_
  refine AllReadyH.cons rfl (fun K hK => ?_) AllReadyH.nil
  refine step_call rfl 45 #[.tmp 56] #[84] rfl #[.pointer (some ⟨g, 0, none⟩)] (by simp [Act.eval]) (by go_simp) (root_any g seed tall w.heap.size (List.replicate 256 false) v X0 RX0) ?_
  rintro e X1 ⟨rfl, hB⟩
  have SX1 : Hid (Blk X1 w.heap.size 29 (w8 seed)) := Lib.hid (SX0.out.below hB SX0.out.lt)
  have DX1 : Hid (Blk X1 (w.heap.size + 1) 29 (w8 d)) := Lib.hid (DX0.out.below hB DX0.out.lt)
  have BX1 : Hid (Below w.heap.size w X1) := Lib.hid (BX0.out.trans (hB.mono BX0.out.size))
  have RX1 : Hid (RingAt X1 w.heap.size g seed tall (List.replicate 256 false) v) := Lib.hid (RX0.out.below hB)
  have AX1 : Hid (Blk X1 ga 40 [.string firstText, .string roundText]) := Lib.hid (AX0.out.below hB AX0.out.lt)
  have OX1 : Hid (OutAt X1 w.heap.size (.slice (some ⟨go, 0, none⟩) (tall + 1) co) seed tall (tall + 1)) := Lib.hid (OX0.out.below hB)
  have CX1 : Hid (X1.cell? ⟨go, tall, none⟩ = some (.slice (some ⟨gt, 0, none⟩) 1 ct)) := Lib.hid ((hB.cell (p := ⟨go, tall, none⟩) (World.block_lt_of_cell? _ _ CX0.out)).trans CX0.out)
  have FX1 : Hid (X1.rangeAt gt 0 (w8 (rootN seed tall))) := Lib.hid (fun j u hu => (hB.cell (p := ⟨gt, 0 + j, none⟩) (World.block_lt_of_cell? _ _ (FX0.out j u hu))).trans (FX0.out j u hu))
  clear SX0 DX0 BX0 RX0 AX0 OX0 CX0 FX0 hB
  refine ⟨_, rfl, hK.out _ _ (⟨CX1.out, FX1.out⟩) (fun hHeld => ?_)⟩
  clear hK K
  show wpAnyH _ _ _ _ _ _ _ (Act.put _ (some 57) _) _
  simp only [Act.put, List.setIfInBounds_toArray, List.set_cons_zero, List.set_cons_succ]
  refine wpAnyH_take (i := 11) (v := .bool false) rfl (by kernel_rfl) (by kernel_rfl) (by kernel_rfl) (fun _ _ _ h => h) (Or.inl ⟨by rfl, fun w' h => run_bin_op' rfl (by kernel_rfl) (w8 (rootN seed tall)).toArray (w8 (rootN seed tall)).toArray rfl rfl _ w' (HNE.out w')⟩) hHeld ?_
  show wpAnyH _ _ _ _ _ _ _ (Act.put _ (some 64) _) _
  simp only [Act.put, List.setIfInBounds_toArray, List.set_cons_zero, List.set_cons_succ]
  refine wpAnyH_take (i := 12) (v := .bool false) rfl (by kernel_rfl) (by kernel_rfl) (by kernel_rfl) (fun _ _ _ h => h) (Or.inl ⟨by rfl, by intro w hSw; first | rfl | go_simp⟩) hHeld ?_
  show wpAnyH _ _ _ _ _ _ _ (Act.put _ (some 65) _) _
  simp only [Act.put, List.setIfInBounds_toArray, List.set_cons_zero, List.set_cons_succ]
  refine wpAnyH_take (i := 13) (v := .bool false) rfl (by kernel_rfl) (by kernel_rfl) (by kernel_rfl) (fun _ _ _ h => h) (Or.inl ⟨by rfl, fun w _ => by rfl⟩) hHeld ?_
  show wpAnyH _ _ _ _ _ _ _ (Act.put _ (some 66) _) _
  simp only [Act.put, List.setIfInBounds_toArray, List.set_cons_zero, List.set_cons_succ]
  refine wpAnyH_take (i := 14) (v := .pointer (some ⟨g, 0, none⟩)) rfl (by kernel_rfl) (by kernel_rfl) (by kernel_rfl) (fun _ _ _ h => h) (Or.inl ⟨by rfl, fun w _ => by rfl⟩) hHeld ?_
  show wpAnyH _ _ _ _ _ _ _ (Act.put _ (some 67) _) _
  simp only [Act.put, List.setIfInBounds_toArray, List.set_cons_zero, List.set_cons_succ]
  refine wpAnyH_take (i := 16) (v := .int .i64 (tall : Int)) rfl (by kernel_rfl) (by kernel_rfl) (by kernel_rfl) (fun _ _ _ h => h) (Or.inl ⟨by rfl, fun w _ => by rfl⟩) hHeld ?_
  show wpAnyH _ _ _ _ _ _ _ (Act.put _ (some 69) _) _
  simp only [Act.put, List.setIfInBounds_toArray, List.set_cons_zero, List.set_cons_succ]
  refine wpAnyH_ready (rs := [15]) (by kernel_rfl) (by simp) ?_
  refine AllReadyH.cons rfl (fun K hK => ?_) AllReadyH.nil
  refine step_call rfl 46 #[.tmp 67] #[84] rfl #[.pointer (some ⟨g, 0, none⟩)] (by simp [Act.eval]) (by go_simp) (tall_any g seed tall w.heap.size (List.replicate 256 false) v X1 RX1) ?_
  rintro e X2 ⟨rfl, hB⟩
  have SX2 : Hid (Blk X2 w.heap.size 29 (w8 seed)) := Lib.hid (SX1.out.below hB SX1.out.lt)
  have DX2 : Hid (Blk X2 (w.heap.size + 1) 29 (w8 d)) := Lib.hid (DX1.out.below hB DX1.out.lt)
  have BX2 : Hid (Below w.heap.size w X2) := Lib.hid (BX1.out.trans (hB.mono BX1.out.size))
  have RX2 : Hid (RingAt X2 w.heap.size g seed tall (List.replicate 256 false) v) := Lib.hid (RX1.out.below hB)
  have AX2 : Hid (Blk X2 ga 40 [.string firstText, .string roundText]) := Lib.hid (AX1.out.below hB AX1.out.lt)
  have OX2 : Hid (OutAt X2 w.heap.size (.slice (some ⟨go, 0, none⟩) (tall + 1) co) seed tall (tall + 1)) := Lib.hid (OX1.out.below hB)
  have CX2 : Hid (X2.cell? ⟨go, tall, none⟩ = some (.slice (some ⟨gt, 0, none⟩) 1 ct)) := Lib.hid ((hB.cell (p := ⟨go, tall, none⟩) (World.block_lt_of_cell? _ _ CX1.out)).trans CX1.out)
  have FX2 : Hid (X2.rangeAt gt 0 (w8 (rootN seed tall))) := Lib.hid (fun j u hu => (hB.cell (p := ⟨gt, 0 + j, none⟩) (World.block_lt_of_cell? _ _ (FX1.out j u hu))).trans (FX1.out j u hu))
  clear SX1 DX1 BX1 RX1 AX1 OX1 CX1 FX1 hB
  refine ⟨_, rfl, hK.out _ _ (⟨CX2.out, FX2.out⟩) (fun hHeld => ?_)⟩
  clear hK K
  show wpAnyH _ _ _ _ _ _ _ (Act.put _ (some 68) _) _
  simp only [Act.put, List.setIfInBounds_toArray, List.set_cons_zero, List.set_cons_succ]
  refine wpAnyH_take (i := 17) (v := .bool false) rfl (by kernel_rfl) (by kernel_rfl) (by kernel_rfl) (fun _ _ _ h => h) (Or.inl ⟨by rfl, by intro w' h; go_simp⟩) hHeld ?_
  show wpAnyH _ _ _ _ _ _ _ (Act.put _ (some 70) _) _
  simp only [Act.put, List.setIfInBounds_toArray, List.set_cons_zero, List.set_cons_succ]
  refine wpAnyH_take (i := 18) (v := .bool false) rfl (by kernel_rfl) (by kernel_rfl) (by kernel_rfl) (fun _ _ _ h => h) (Or.inl ⟨by rfl, by intro w hSw; first | rfl | go_simp⟩) hHeld ?_
  show wpAnyH _ _ _ _ _ _ _ (Act.put _ (some 71) _) _
  simp only [Act.put, List.setIfInBounds_toArray, List.set_cons_zero, List.set_cons_succ]
  refine wpAnyH_take (i := 19) (v := .bool false) rfl (by kernel_rfl) (by kernel_rfl) (by kernel_rfl) (fun _ _ _ h => h) (Or.inl ⟨by rfl, fun w _ => by rfl⟩) hHeld ?_
  show wpAnyH _ _ _ _ _ _ _ (Act.put _ (some 72) _) _
  simp only [Act.put, List.setIfInBounds_toArray, List.set_cons_zero, List.set_cons_succ]
  refine wpAnyH_ready (rs := [20]) (by kernel_rfl) (by simp) ?_
  refine AllReadyH.cons rfl (fun K hK => ?_) AllReadyH.nil
  refine step_call rfl 42 #[] #[] rfl #[] (by simp) (by go_simp) (awake5_any X2 (Lib.hid (HT.out.below BX2.out HT.out.lt))) ?_
  rintro e X3 ⟨rfl, hB⟩
  have SX3 : Hid (Blk X3 w.heap.size 29 (w8 seed)) := Lib.hid (SX2.out.below hB SX2.out.lt)
  have DX3 : Hid (Blk X3 (w.heap.size + 1) 29 (w8 d)) := Lib.hid (DX2.out.below hB DX2.out.lt)
  have BX3 : Hid (Below w.heap.size w X3) := Lib.hid (BX2.out.trans (hB.mono BX2.out.size))
  have RX3 : Hid (RingAt X3 w.heap.size g seed tall (List.replicate 256 false) v) := Lib.hid (RX2.out.below hB)
  have AX3 : Hid (Blk X3 ga 40 [.string firstText, .string roundText]) := Lib.hid (AX2.out.below hB AX2.out.lt)
  have OX3 : Hid (OutAt X3 w.heap.size (.slice (some ⟨go, 0, none⟩) (tall + 1) co) seed tall (tall + 1)) := Lib.hid (OX2.out.below hB)
  have CX3 : Hid (X3.cell? ⟨go, tall, none⟩ = some (.slice (some ⟨gt, 0, none⟩) 1 ct)) := Lib.hid ((hB.cell (p := ⟨go, tall, none⟩) (World.block_lt_of_cell? _ _ CX2.out)).trans CX2.out)
  have FX3 : Hid (X3.rangeAt gt 0 (w8 (rootN seed tall))) := Lib.hid (fun j u hu => (hB.cell (p := ⟨gt, 0 + j, none⟩) (World.block_lt_of_cell? _ _ (FX2.out j u hu))).trans (FX2.out j u hu))
  clear SX2 DX2 BX2 RX2 AX2 OX2 CX2 FX2 hB
  refine ⟨_, rfl, hK.out _ _ (⟨CX3.out, FX3.out⟩) (fun hHeld => ?_)⟩
  clear hK K
  show wpAnyH _ _ _ _ _ _ _ (Act.put _ (some 73) _) _
  simp only [Act.put, List.setIfInBounds_toArray, List.set_cons_zero, List.set_cons_succ]
  refine wpAnyH_take (i := 21) (v := .bool false) rfl (by kernel_rfl) (by kernel_rfl) (by kernel_rfl) (fun _ _ _ h => h) (Or.inl ⟨by rfl, by intro w' h; go_simp⟩) hHeld ?_
  show wpAnyH _ _ _ _ _ _ _ (Act.put _ (some 74) _) _
  simp only [Act.put, List.setIfInBounds_toArray, List.set_cons_zero, List.set_cons_succ]
  refine wpAnyH_take (i := 22) (v := .bool false) rfl (by kernel_rfl) (by kernel_rfl) (by kernel_rfl) (fun _ _ _ h => h) (Or.inl ⟨by rfl, by intro w hSw; first | rfl | go_simp⟩) hHeld ?_
  show wpAnyH _ _ _ _ _ _ _ (Act.put _ (some 75) _) _
  simp only [Act.put, List.setIfInBounds_toArray, List.set_cons_zero, List.set_cons_succ]
  refine wpAnyH_done (by kernel_rfl) ?_ _
  clear hHeld
  skip
  clear CX3 FX3
  go_wp2_with fail
  refine (power_any tall X3 (by omega)).mono ?_
  rintro e U21 ⟨rfl, hB⟩
  have SU21 : Hid (Blk U21 w.heap.size 29 (w8 seed)) := Lib.hid (SX3.out.below hB SX3.out.lt)
  have DU21 : Hid (Blk U21 (w.heap.size + 1) 29 (w8 d)) := Lib.hid (DX3.out.below hB DX3.out.lt)
  have BU21 : Hid (Below w.heap.size w U21) := Lib.hid (BX3.out.trans (hB.mono BX3.out.size))
  have RU21 : Hid (RingAt U21 w.heap.size g seed tall (List.replicate 256 false) v) := Lib.hid (RX3.out.below hB)
  have AU21 : Hid (Blk U21 ga 40 [.string firstText, .string roundText]) := Lib.hid (AX3.out.below hB AX3.out.lt)
  have OU21 : Hid (OutAt U21 w.heap.size (.slice (some ⟨go, 0, none⟩) (tall + 1) co) seed tall (tall + 1)) := Lib.hid (OX3.out.below hB)
  clear SX3 DX3 BX3 RX3 AX3 OX3
  clear hB
  have hv3 : ga < U21.heap.size := AU21.out.lt
  go_wp2_with (at_make; refine wpList_make_full _ rfl (.tmp 77) (.tmp 77) 89 rfl w.heap.size 4 i4 (.bool false) 1 Tryd.underlying89 hi4 hy0 hy1 .i64 .i64 _ _ (pw tall) rfl rfl ?c1 ?c2 ?c3 ?c4 ?c5 ?_)
  case c1 => omega
  case c2 => omega
  case c3 => rw [hy2]; omega
  case c4 => unfold maxLen; omega
  case c5 => exact BU21.out.size
  intro W9 hown hg
  have hB : Below U21.heap.size U21 W9 := (Below.refl _ _).grown hg (Nat.le_refl _) (by simp)
  obtain ⟨hr, hbase⟩ := own_full hown
  rw [made_bools, ← tkc_start (pw tall) (by omega)] at hr
  have TW9 := Lib.hid hr
  have SW9 := Lib.hid (SU21.out.below hB SU21.out.lt)
  have DW9 := Lib.hid (DU21.out.below hB DU21.out.lt)
  have BW9 := Lib.hid (BU21.out.trans (hB.mono BU21.out.size))
  have RW9 := Lib.hid (RU21.out.below hB)
  have AW9 := Lib.hid (AU21.out.below hB AU21.out.lt)
  have OW9 := Lib.hid (OU21.out.below hB)
  clear hB hown hg hr hbase SU21 DU21 BU21 RU21 AU21 OU21
  obtain ⟨gk, hgk⟩ : ∃ q, U21.heap.size = q := ⟨_, rfl⟩
  rw [hgk] at TW9 hv3 ⊢
  clear hgk
  go_wp2_with fail
  go_loopw [81, 16, 17, 18, 19, 20, 21, 22] (fun i _ _ _ _ _ _ _ wr => ∃ (n : Nat) (tk : List Bool), n ≤ kl ∧ i = .int .i64 n ∧ Hid (Blk wr gk 4 (tkc tk (pw tall))) ∧ Hid (Blk wr w.heap.size 29 (w8 seed)) ∧ Hid (Blk wr (w.heap.size + 1) 29 (w8 d)) ∧ Hid (Below w.heap.size w wr) ∧ Hid (RingAt wr w.heap.size g seed tall tk v) ∧ Hid (Blk wr ga 40 [.string firstText, .string roundText]) ∧ Hid (OutAt wr w.heap.size (.slice (some ⟨go, 0, none⟩) (tall + 1) co) seed tall (tall + 1))) (fun i _ _ _ _ _ _ _ _ => kl - (intOf i).toNat)
  case atStart => exact ⟨0, (List.replicate 256 false), Nat.zero_le _, rfl, TW9, SW9, DW9, BW9, RW9, AW9, OW9⟩
  case round =>
    clear TW9 SW9 DW9 BW9 RW9 AW9 OW9
    obtain ⟨n, tk, hn, rfl, Twr, Swr, Dwr, Bwr, Rwr, Awr, Owr⟩ := hrel
    by_cases hlt : n < kl
    · have n1 : (n : Int) < (kl : Int) := by omega
      obtain ⟨gK, oK, hka, hgK, hkcs⟩ : ∃ g o, ka = some ⟨g, o, none⟩ ∧ g < w.heap.size ∧ ∀ i, i < kl → ∃ n : Nat, n < 4294967296 ∧ w.cell? ⟨g, o + i, none⟩ = some (.int .u32 (n : Int)) := by
        rcases HK.out with h | h
        · omega
        · exact h
      subst hka
      obtain ⟨kn, hk32, hkc⟩ := hkcs n hlt
      clear hkcs
      have hk32i : (kn : Int) < 4294967296 := by omega
      have HK32 := Lib.hid hk32
      clear hk32
      have ckw := (Bwr.out.cell (p := ⟨gK, oK + n, none⟩) hgK).trans hkc
      by_cases hlb : n < bl
      · have n2 : (n : Int) < (bl : Int) := by omega
        by_cases h20 : n < 20
        · have n3 : (n : Int) < 20 := by omega
          clear h20
          obtain ⟨gB, oB, hba, hgB, hbcs⟩ : ∃ g o, ba = some ⟨g, o, none⟩ ∧ g < w.heap.size ∧ ∀ i, i < bl → ∃ n : Nat, n < 256 ∧ w.cell? ⟨g, o + i, none⟩ = some (.int .u8 (n : Int)) := by
            rcases HB.out with h | h
            · omega
            · exact h
          subst hba
          obtain ⟨kd, hkd, hbc⟩ := hbcs n hlb
          clear hbcs ckw
          have kd1 : (kd : Int) < 256 := by omega
          clear hkd
          obtain ⟨x, hx⟩ : ∃ x : Int, (n : Int) = x := ⟨_, rfl⟩
          rw [hx]
          have hxn : n = x.toNat := by omega
          have x0 : 0 ≤ x := by omega
          have x1 : x < (kl : Int) := by omega
          have x2 : x < (bl : Int) := by omega
          have x3 : x < 20 := by omega
          have x4 : decide ((bl : Int) ≤ x) = false := decide_eq_false (by omega)
          have x5 : decide ((20 : Int) ≤ x) = false := decide_eq_false (by omega)
          have HXN := Lib.hid hx
          have HLT := Lib.hid hlt
          rw [hxn] at hkc hbc
          clear n1 n2 n3 hxn hx hlt hlb hn
          have hl256 := Rwr.out.tk
          have hlen : pw tall ≤ tk.length := by omega
          have pws : ((pw tall : Nat) : Int) ≤ 8 := by omega
          have hmd : (kd : Int).tmod 3 = ((kd % 3 : Nat) : Int) := by rw [Int.tmod_eq_emod_of_nonneg (by omega)]; omega
          have h3 : kd % 3 = 0 ∨ kd % 3 = 1 ∨ kd % 3 = 2 := by omega
          rcases h3 with h3 | h3 | h3
          · have hm : (kd : Int).tmod 3 = 0 := by rw [hmd, h3]; rfl
            clear hmd h3
            by_cases hin : kn < pw tall
            · have hini : (kn : Int) < ((pw tall : Nat) : Int) := by omega
              have hkl : kn < tk.length := by omega
              by_cases htk : tk.getD kn false = true
              · skip
                have ck := (Bwr.out.cell (p := ⟨gK, oK + x.toNat, none⟩) hgK).trans hkc
                have hrg := Rwr.out.blk.lt
                go_upto_region 14 with fail
                go_upto_region 15 with fail
                go_upto_region 16 with fail
                go_upto_region 17 with fail
                clear ck
                have hB : Below wr.heap.size wr (wr.alloc (.cells Tryd.zeroCells94 94)) := (Below.refl _ _).alloc (Nat.le_refl _) _
                have hkz : gk < wr.heap.size := Twr.out.lt
                have SU1 : Hid (Blk (wr.alloc (.cells Tryd.zeroCells94 94)) w.heap.size 29 (w8 seed)) := Lib.hid (Swr.out.below hB Swr.out.lt)
                have DU1 : Hid (Blk (wr.alloc (.cells Tryd.zeroCells94 94)) (w.heap.size + 1) 29 (w8 d)) := Lib.hid (Dwr.out.below hB Dwr.out.lt)
                have BU1 : Hid (Below w.heap.size w (wr.alloc (.cells Tryd.zeroCells94 94))) := Lib.hid (Bwr.out.trans (hB.mono Bwr.out.size))
                have RU1 : Hid (RingAt (wr.alloc (.cells Tryd.zeroCells94 94)) w.heap.size g seed tall tk v) := Lib.hid (Rwr.out.below hB)
                have AU1 : Hid (Blk (wr.alloc (.cells Tryd.zeroCells94 94)) ga 40 [.string firstText, .string roundText]) := Lib.hid (Awr.out.below hB Awr.out.lt)
                have OU1 : Hid (OutAt (wr.alloc (.cells Tryd.zeroCells94 94)) w.heap.size (.slice (some ⟨go, 0, none⟩) (tall + 1) co) seed tall (tall + 1)) := Lib.hid (Owr.out.below hB)
                have TU1 : Hid (Blk (wr.alloc (.cells Tryd.zeroCells94 94)) gk 4 (tkc tk (pw tall))) := Lib.hid (Twr.out.below hB Twr.out.lt)
                have ZU1 : Hid (Blk (wr.alloc (.cells Tryd.zeroCells94 94)) wr.heap.size 94 zsig) := Lib.hid (by
                  have h := Blk.new wr 94 zsig
                  rw [zsig_arr] at h
                  exact h)
                clear hB Swr Dwr Bwr Rwr Awr Owr Twr
                generalize (wr.alloc (.cells Tryd.zeroCells94 94)) = U1 at SU1 DU1 BU1 RU1 AU1 OU1 TU1 ZU1 ⊢
                generalize wr.heap.size = gz at hkz hrg ZU1 ⊢
                have HRD := Lib.hid DU1.out.all
                have cb := (BU1.out.cell (p := ⟨gB, oB + x.toNat, none⟩) hgB).trans hbc
                go_wp2_with (first | (refine wpList_load_mid rfl 29 (.tmp 9) rfl (w.heap.size + 1) 0 rfl (w8 d) _ HRD.out Tryd.underlying29 rfl HID.out ?_))
                refine (sign_spent g kn seed d tall w.heap.size tk v U1 RU1 hin htk).mono ?_
                rintro e U2 ⟨rfl, hB⟩
                have SU2 : Hid (Blk U2 w.heap.size 29 (w8 seed)) := Lib.hid (SU1.out.below hB SU1.out.lt)
                have DU2 : Hid (Blk U2 (w.heap.size + 1) 29 (w8 d)) := Lib.hid (DU1.out.below hB DU1.out.lt)
                have BU2 : Hid (Below w.heap.size w U2) := Lib.hid (BU1.out.trans (hB.mono BU1.out.size))
                have RU2 : Hid (RingAt U2 w.heap.size g seed tall tk v) := Lib.hid (RU1.out.below hB)
                have AU2 : Hid (Blk U2 ga 40 [.string firstText, .string roundText]) := Lib.hid (AU1.out.below hB AU1.out.lt)
                have OU2 : Hid (OutAt U2 w.heap.size (.slice (some ⟨go, 0, none⟩) (tall + 1) co) seed tall (tall + 1)) := Lib.hid (OU1.out.below hB)
                have TU2 : Hid (Blk U2 gk 4 (tkc tk (pw tall))) := Lib.hid (TU1.out.below hB TU1.out.lt)
                have ZU2 : Hid (Blk U2 gz 94 zsig) := Lib.hid (ZU1.out.below hB ZU1.out.lt)
                clear SU1 DU1 BU1 RU1 AU1 OU1 TU1 ZU1
                clear hB HRD cb
                have ct : U2.cell? ⟨gk, kn, none⟩ = some (.bool true) := by rw [TU2.out.cell, tkc_get _ _ _ hin hlen, htk]
                go_upto_region 23 with (first | (refine wpList_store_row rfl 94 (.tmp 19) (.tmp 115) rfl gz zsig.toArray rfl rfl 94 _ ZU2.out HS5.out rfl HO5.out ?_))
                have hO : U2.grownBy (U2.setRow gz zsig.toArray) (some gz) := only_setRow (only_refl _ _) _
                have hbk := ZU2.out
                have SU3 : Hid (Blk (U2.setRow gz zsig.toArray) w.heap.size 29 (w8 seed)) := Lib.hid (SU2.out.grown hO (fun e => by injection e with e; omega))
                have DU3 : Hid (Blk (U2.setRow gz zsig.toArray) (w.heap.size + 1) 29 (w8 d)) := Lib.hid (DU2.out.grown hO (fun e => by injection e with e; omega))
                have BU3 : Hid (Below w.heap.size w (U2.setRow gz zsig.toArray)) := Lib.hid (BU2.out.trans (only_up hO (by omega) BU2.out.size))
                have RU3 : Hid (RingAt (U2.setRow gz zsig.toArray) w.heap.size g seed tall tk v) := Lib.hid (RU2.out.other hO hbk (by decide) (by decide) (by decide))
                have AU3 : Hid (Blk (U2.setRow gz zsig.toArray) ga 40 [.string firstText, .string roundText]) := Lib.hid (AU2.out.grown hO (fun e => by injection e with e; omega))
                have OU3 : Hid (OutAt (U2.setRow gz zsig.toArray) w.heap.size (.slice (some ⟨go, 0, none⟩) (tall + 1) co) seed tall (tall + 1)) := Lib.hid (OU2.out.far hO hbk (by decide) (by decide))
                have TU3 : Hid (Blk (U2.setRow gz zsig.toArray) gk 4 (tkc tk (pw tall))) := Lib.hid (TU2.out.grown hO (fun e => by injection e with e; omega))
                have ZU3 : Hid (Blk (U2.setRow gz zsig.toArray) gz 94 zsig) := Lib.hid (ZU2.out.setRow _)
                clear hO hbk ct SU2 DU2 BU2 RU2 AU2 OU2 TU2 ZU2
                generalize (U2.setRow gz zsig.toArray) = U3 at SU3 DU3 BU3 RU3 AU3 OU3 TU3 ZU3 ⊢
                have ct : U3.cell? ⟨gk, kn, none⟩ = some (.bool true) := by rw [TU3.out.cell, tkc_get _ _ _ hin hlen, htk]
                go_upto_region 35 with fail
                clear ct
                have HL := Lib.hid (heap_alloc_last U3 (.cells Tryd.zeroCells99 99))
                go_upto_region 36 with (first | (refine wpList_store_row rfl 99 (.tmp 22) (.tmp 151) rfl U3.heap.size zsig.toArray rfl (congrArg Value.agg zsig_arr9.symm) 99 _ HL.out HS9.out HZ9.out HO9.out ?_; rw [World.setRow_alloc_new]))
                have hB : Below U3.heap.size U3 (U3.alloc (.cells zsig.toArray 99)) := (Below.refl _ _).alloc (Nat.le_refl _) _
                have SU4 : Hid (Blk (U3.alloc (.cells zsig.toArray 99)) w.heap.size 29 (w8 seed)) := Lib.hid (SU3.out.below hB SU3.out.lt)
                have DU4 : Hid (Blk (U3.alloc (.cells zsig.toArray 99)) (w.heap.size + 1) 29 (w8 d)) := Lib.hid (DU3.out.below hB DU3.out.lt)
                have BU4 : Hid (Below w.heap.size w (U3.alloc (.cells zsig.toArray 99))) := Lib.hid (BU3.out.trans (hB.mono BU3.out.size))
                have RU4 : Hid (RingAt (U3.alloc (.cells zsig.toArray 99)) w.heap.size g seed tall tk v) := Lib.hid (RU3.out.below hB)
                have AU4 : Hid (Blk (U3.alloc (.cells zsig.toArray 99)) ga 40 [.string firstText, .string roundText]) := Lib.hid (AU3.out.below hB AU3.out.lt)
                have OU4 : Hid (OutAt (U3.alloc (.cells zsig.toArray 99)) w.heap.size (.slice (some ⟨go, 0, none⟩) (tall + 1) co) seed tall (tall + 1)) := Lib.hid (OU3.out.below hB)
                have TU4 : Hid (Blk (U3.alloc (.cells zsig.toArray 99)) gk 4 (tkc tk (pw tall))) := Lib.hid (TU3.out.below hB TU3.out.lt)
                have ZU4 : Hid (Blk (U3.alloc (.cells zsig.toArray 99)) gz 94 zsig) := Lib.hid (ZU3.out.below hB ZU3.out.lt)
                have KU4 : Hid (Blk (U3.alloc (.cells zsig.toArray 99)) U3.heap.size 99 zsig) := Lib.hid (Blk.new _ _ _)
                have HKX : Hid (gz < U3.heap.size) := Lib.hid ZU3.out.lt
                clear hB HL SU3 DU3 BU3 RU3 AU3 OU3 TU3 ZU3
                generalize (U3.alloc (.cells zsig.toArray 99)) = U4 at SU4 DU4 BU4 RU4 AU4 OU4 TU4 ZU4 KU4 ⊢
                generalize U3.heap.size = gx at KU4 HKX ⊢
                have hzx := HKX.out
                have cb := (BU4.out.cell (p := ⟨gB, oB + x.toNat, none⟩) hgB).trans hbc
                go_upto_region 38 with fail
                clear cb
                have hBz : Below U4.heap.size U4 U4.drew := below_drewN (Below.refl _ _) 1
                have SX0 : Hid (Blk U4.drew w.heap.size 29 (w8 seed)) := Lib.hid (SU4.out.below hBz SU4.out.lt)
                have DX0 : Hid (Blk U4.drew (w.heap.size + 1) 29 (w8 d)) := Lib.hid (DU4.out.below hBz DU4.out.lt)
                have BX0 : Hid (Below w.heap.size w U4.drew) := Lib.hid (BU4.out.trans (hBz.mono BU4.out.size))
                have RX0 : Hid (RingAt U4.drew w.heap.size g seed tall tk v) := Lib.hid (RU4.out.below hBz)
                have AX0 : Hid (Blk U4.drew ga 40 [.string firstText, .string roundText]) := Lib.hid (AU4.out.below hBz AU4.out.lt)
                have OX0 : Hid (OutAt U4.drew w.heap.size (.slice (some ⟨go, 0, none⟩) (tall + 1) co) seed tall (tall + 1)) := Lib.hid (OU4.out.below hBz)
                have TX0 : Hid (Blk U4.drew gk 4 (tkc tk (pw tall))) := Lib.hid (TU4.out.below hBz TU4.out.lt)
                have ZX0 : Hid (Blk U4.drew gz 94 zsig) := Lib.hid (ZU4.out.below hBz ZU4.out.lt)
                have KX0 : Hid (Blk U4.drew gx 99 zsig) := Lib.hid (KU4.out.below hBz KU4.out.lt)
                clear hBz
                refine wp_region_held_drew (S := fun w' => Blk w' gz 94 zsig ∧ Blk w' gx 99 zsig ∧ Blk w' gk 4 (tkc tk (pw tall))) (by kernel_rfl) (⟨ZX0.out, KX0.out, TX0.out⟩) (fun hHeld => ?_)
                generalize U4.drew = X0 at hHeld SX0 DX0 BX0 RX0 AX0 OX0 TX0 ZX0 KX0 ⊢
                refine wpAnyH_take (i := 0) (v := .agg zsig.toArray) rfl (by kernel_rfl) (by kernel_rfl) (by kernel_rfl) (fun _ _ _ h => h) (yieldsIf_load_mid rfl 94 (.tmp 19) rfl gz 0 rfl zsig _ (fun w' h => Blk.all h.1) Tryd.underlying94 rfl (by rw [zsig_length]; exact info94)) hHeld ?_
                show wpAnyH _ _ _ _ _ _ _ (Act.put _ (some 169) _) _
                simp only [Act.put, List.setIfInBounds_toArray, List.set_cons_zero, List.set_cons_succ]
                refine wpAnyH_take (i := 2) (v := .agg zsig.toArray) rfl (by kernel_rfl) (by kernel_rfl) (by kernel_rfl) (fun _ _ _ h => h) (yieldsIf_load_mid rfl 99 (.tmp 22) rfl gx 0 rfl zsig _ (fun w' h => Blk.all h.2.1) Tryd.underlying99 rfl (by rw [zsig_length]; exact info99)) hHeld ?_
                show wpAnyH _ _ _ _ _ _ _ (Act.put _ (some 171) _) _
                simp only [Act.put, List.setIfInBounds_toArray, List.set_cons_zero, List.set_cons_succ]
                refine wpAnyH_ready (rs := [1]) (by kernel_rfl) (by simp) ?_
                refine AllReadyH.cons rfl (fun K hK => ?_) AllReadyH.nil
                refine step_call rfl 53 #[.tmp 169] #[94] rfl #[.agg zsig.toArray] (by simp [Act.eval]) (by go_simp) (from_zero X0) ?_
                rintro e X1 ⟨vf, rfl, hwf, hB⟩
                have SX1 : Hid (Blk X1 w.heap.size 29 (w8 seed)) := Lib.hid (SX0.out.below hB SX0.out.lt)
                have DX1 : Hid (Blk X1 (w.heap.size + 1) 29 (w8 d)) := Lib.hid (DX0.out.below hB DX0.out.lt)
                have BX1 : Hid (Below w.heap.size w X1) := Lib.hid (BX0.out.trans (hB.mono BX0.out.size))
                have RX1 : Hid (RingAt X1 w.heap.size g seed tall tk v) := Lib.hid (RX0.out.below hB)
                have AX1 : Hid (Blk X1 ga 40 [.string firstText, .string roundText]) := Lib.hid (AX0.out.below hB AX0.out.lt)
                have OX1 : Hid (OutAt X1 w.heap.size (.slice (some ⟨go, 0, none⟩) (tall + 1) co) seed tall (tall + 1)) := Lib.hid (OX0.out.below hB)
                have TX1 : Hid (Blk X1 gk 4 (tkc tk (pw tall))) := Lib.hid (TX0.out.below hB TX0.out.lt)
                have ZX1 : Hid (Blk X1 gz 94 zsig) := Lib.hid (ZX0.out.below hB ZX0.out.lt)
                have KX1 : Hid (Blk X1 gx 99 zsig) := Lib.hid (KX0.out.below hB KX0.out.lt)
                have NX1 : Hid (WayR X1 vf zW 0) := Lib.hid (hwf)
                clear SX0 DX0 BX0 RX0 AX0 OX0 TX0 ZX0 KX0 hB hwf
                refine ⟨_, rfl, hK.out _ _ (⟨ZX1.out, KX1.out, TX1.out⟩) (fun hHeld => ?_)⟩
                clear hK K
                show wpAnyH _ _ _ _ _ _ _ (Act.put _ (some 170) _) _
                simp only [Act.put, List.setIfInBounds_toArray, List.set_cons_zero, List.set_cons_succ]
                refine wpAnyH_ready (rs := [3]) (by kernel_rfl) (by simp) ?_
                refine AllReadyH.cons rfl (fun K hK => ?_) AllReadyH.nil
                refine step_call rfl 52 #[.tmp 170, .tmp 171] #[99, 99] rfl #[.agg (rsg zS 0 vf).toArray, .agg zsig.toArray] (by simp [Act.eval]) (by go_simp) (same_zero vf X1 NX1) ?_
                rintro e X2 ⟨rfl, hB⟩
                have SX2 : Hid (Blk X2 w.heap.size 29 (w8 seed)) := Lib.hid (SX1.out.below hB SX1.out.lt)
                have DX2 : Hid (Blk X2 (w.heap.size + 1) 29 (w8 d)) := Lib.hid (DX1.out.below hB DX1.out.lt)
                have BX2 : Hid (Below w.heap.size w X2) := Lib.hid (BX1.out.trans (hB.mono BX1.out.size))
                have RX2 : Hid (RingAt X2 w.heap.size g seed tall tk v) := Lib.hid (RX1.out.below hB)
                have AX2 : Hid (Blk X2 ga 40 [.string firstText, .string roundText]) := Lib.hid (AX1.out.below hB AX1.out.lt)
                have OX2 : Hid (OutAt X2 w.heap.size (.slice (some ⟨go, 0, none⟩) (tall + 1) co) seed tall (tall + 1)) := Lib.hid (OX1.out.below hB)
                have TX2 : Hid (Blk X2 gk 4 (tkc tk (pw tall))) := Lib.hid (TX1.out.below hB TX1.out.lt)
                have ZX2 : Hid (Blk X2 gz 94 zsig) := Lib.hid (ZX1.out.below hB ZX1.out.lt)
                have KX2 : Hid (Blk X2 gx 99 zsig) := Lib.hid (KX1.out.below hB KX1.out.lt)
                have NX2 : Hid (WayR X2 vf zW 0) := Lib.hid (NX1.out.below hB)
                clear SX1 DX1 BX1 RX1 AX1 OX1 TX1 ZX1 KX1 NX1 hB
                refine ⟨_, rfl, hK.out _ _ (⟨ZX2.out, KX2.out, TX2.out⟩) (fun hHeld => ?_)⟩
                clear hK K
                show wpAnyH _ _ _ _ _ _ _ (Act.put _ (some 172) _) _
                simp only [Act.put, List.setIfInBounds_toArray, List.set_cons_zero, List.set_cons_succ]
                refine wpAnyH_take (i := 4) (v := .bool false) rfl (by kernel_rfl) (by kernel_rfl) (by kernel_rfl) (fun _ _ _ h => h) (Or.inl ⟨by rfl, by intro w' h; go_simp⟩) hHeld ?_
                show wpAnyH _ _ _ _ _ _ _ (Act.put _ (some 173) _) _
                simp only [Act.put, List.setIfInBounds_toArray, List.set_cons_zero, List.set_cons_succ]
                refine wpAnyH_take (i := 5) (v := .bool false) rfl (by kernel_rfl) (by kernel_rfl) (by kernel_rfl) (fun _ _ _ h => h) (Or.inl ⟨by rfl, fun w _ => by rfl⟩) hHeld ?_
                show wpAnyH _ _ _ _ _ _ _ (Act.put _ (some 174) _) _
                simp only [Act.put, List.setIfInBounds_toArray, List.set_cons_zero, List.set_cons_succ]
                refine wpAnyH_take (i := 6) (v := .pointer (some ⟨g, 0, none⟩)) rfl (by kernel_rfl) (by kernel_rfl) (by kernel_rfl) (fun _ _ _ h => h) (Or.inl ⟨by rfl, fun w _ => by rfl⟩) hHeld ?_
                show wpAnyH _ _ _ _ _ _ _ (Act.put _ (some 175) _) _
                simp only [Act.put, List.setIfInBounds_toArray, List.set_cons_zero, List.set_cons_succ]
                refine wpAnyH_take (i := 7) (v := .int .u32 (kn : Int)) rfl (by kernel_rfl) (by kernel_rfl) (by kernel_rfl) (fun _ _ _ h => h) (Or.inl ⟨by rfl, fun w _ => by rfl⟩) hHeld ?_
                show wpAnyH _ _ _ _ _ _ _ (Act.put _ (some 176) _) _
                simp only [Act.put, List.setIfInBounds_toArray, List.set_cons_zero, List.set_cons_succ]
                refine wpAnyH_take (i := 9) (v := .bool true) rfl (by kernel_rfl) (by kernel_rfl) (by kernel_rfl) (fun _ _ _ h => h) (Or.inl ⟨by rfl, fun w _ => by rfl⟩) hHeld ?_
                show wpAnyH _ _ _ _ _ _ _ (Act.put _ (some 178) _) _
                simp only [Act.put, List.setIfInBounds_toArray, List.set_cons_zero, List.set_cons_succ]
                refine wpAnyH_ready (rs := [8]) (by kernel_rfl) (by simp) ?_
                refine AllReadyH.cons rfl (fun K hK => ?_) AllReadyH.nil
                have hcT := taken_any g kn seed tall w.heap.size tk v X2 RX2 HK32.out
                rw [decide_eq_true hin, htk, Bool.true_and] at hcT
                refine step_call rfl 54 #[.tmp 175, .tmp 176] #[84, 38] rfl #[.pointer (some ⟨g, 0, none⟩), .int .u32 (kn : Int)] (by simp [Act.eval]) (by go_simp) (hcT) ?_
                rintro e X3 ⟨rfl, hB⟩
                have SX3 : Hid (Blk X3 w.heap.size 29 (w8 seed)) := Lib.hid (SX2.out.below hB SX2.out.lt)
                have DX3 : Hid (Blk X3 (w.heap.size + 1) 29 (w8 d)) := Lib.hid (DX2.out.below hB DX2.out.lt)
                have BX3 : Hid (Below w.heap.size w X3) := Lib.hid (BX2.out.trans (hB.mono BX2.out.size))
                have RX3 : Hid (RingAt X3 w.heap.size g seed tall tk v) := Lib.hid (RX2.out.below hB)
                have AX3 : Hid (Blk X3 ga 40 [.string firstText, .string roundText]) := Lib.hid (AX2.out.below hB AX2.out.lt)
                have OX3 : Hid (OutAt X3 w.heap.size (.slice (some ⟨go, 0, none⟩) (tall + 1) co) seed tall (tall + 1)) := Lib.hid (OX2.out.below hB)
                have TX3 : Hid (Blk X3 gk 4 (tkc tk (pw tall))) := Lib.hid (TX2.out.below hB TX2.out.lt)
                have ZX3 : Hid (Blk X3 gz 94 zsig) := Lib.hid (ZX2.out.below hB ZX2.out.lt)
                have KX3 : Hid (Blk X3 gx 99 zsig) := Lib.hid (KX2.out.below hB KX2.out.lt)
                have NX3 : Hid (WayR X3 vf zW 0) := Lib.hid (NX2.out.below hB)
                clear SX2 DX2 BX2 RX2 AX2 OX2 TX2 ZX2 KX2 NX2 hB
                refine ⟨_, rfl, hK.out _ _ (⟨ZX3.out, KX3.out, TX3.out⟩) (fun hHeld => ?_)⟩
                clear hK K
                show wpAnyH _ _ _ _ _ _ _ (Act.put _ (some 177) _) _
                simp only [Act.put, List.setIfInBounds_toArray, List.set_cons_zero, List.set_cons_succ]
                refine wpAnyH_take (i := 10) (v := .bool true) rfl (by kernel_rfl) (by kernel_rfl) (by kernel_rfl) (fun _ _ _ h => h) (Or.inl ⟨by rfl, fun w _ => by rfl⟩) hHeld ?_
                show wpAnyH _ _ _ _ _ _ _ (Act.put _ (some 179) _) _
                simp only [Act.put, List.setIfInBounds_toArray, List.set_cons_zero, List.set_cons_succ]
                refine wpAnyH_take (i := 11) (v := .slice (some ⟨gk, 0, none⟩) (pw tall) (pw tall)) rfl (by kernel_rfl) (by kernel_rfl) (by kernel_rfl) (fun _ _ _ h => h) (Or.inl ⟨by rfl, fun w _ => by rfl⟩) hHeld ?_
                show wpAnyH _ _ _ _ _ _ _ (Act.put _ (some 180) _) _
                simp only [Act.put, List.setIfInBounds_toArray, List.set_cons_zero, List.set_cons_succ]
                refine wpAnyH_take (i := 12) (v := .int .u32 (kn : Int)) rfl (by kernel_rfl) (by kernel_rfl) (by kernel_rfl) (fun _ _ _ h => h) (Or.inl ⟨by rfl, fun w _ => by rfl⟩) hHeld ?_
                show wpAnyH _ _ _ _ _ _ _ (Act.put _ (some 181) _) _
                simp only [Act.put, List.setIfInBounds_toArray, List.set_cons_zero, List.set_cons_succ]
                refine wpAnyH_take (i := 13) (v := .pointer (some ⟨gk, kn, none⟩)) rfl (by kernel_rfl) (by kernel_rfl) (by kernel_rfl) (fun _ _ _ h => h) (Or.inl ⟨by rfl, by intro w' h; go_simp⟩) hHeld ?_
                show wpAnyH _ _ _ _ _ _ _ (Act.put _ (some 182) _) _
                simp only [Act.put, List.setIfInBounds_toArray, List.set_cons_zero, List.set_cons_succ]
                refine wpAnyH_take (i := 14) (v := .bool true) rfl (by kernel_rfl) (by kernel_rfl) (by kernel_rfl) (fun _ _ _ h => h) (Or.inl ⟨by rfl, by intro w' h; have q9 := h.2.2.cell kn; rw [tkc_get _ _ _ hin (by simp [hl256]; omega), htk] at q9; go_simp⟩) hHeld ?_
                show wpAnyH _ _ _ _ _ _ _ (Act.put _ (some 183) _) _
                simp only [Act.put, List.setIfInBounds_toArray, List.set_cons_zero, List.set_cons_succ]
                refine wpAnyH_take (i := 15) (v := .bool true) rfl (by kernel_rfl) (by kernel_rfl) (by kernel_rfl) (fun _ _ _ h => h) (Or.inl ⟨by rfl, by intro w hSw; first | rfl | go_simp⟩) hHeld ?_
                show wpAnyH _ _ _ _ _ _ _ (Act.put _ (some 184) _) _
                simp only [Act.put, List.setIfInBounds_toArray, List.set_cons_zero, List.set_cons_succ]
                refine wpAnyH_take (i := 16) (v := .bool false) rfl (by kernel_rfl) (by kernel_rfl) (by kernel_rfl) (fun _ _ _ h => h) (Or.inl ⟨by rfl, by intro w' h; go_simp⟩) hHeld ?_
                show wpAnyH _ _ _ _ _ _ _ (Act.put _ (some 185) _) _
                simp only [Act.put, List.setIfInBounds_toArray, List.set_cons_zero, List.set_cons_succ]
                refine wpAnyH_take (i := 17) (v := .bool false) rfl (by kernel_rfl) (by kernel_rfl) (by kernel_rfl) (fun _ _ _ h => h) (Or.inl ⟨by rfl, by intro w hSw; first | rfl | go_simp⟩) hHeld ?_
                show wpAnyH _ _ _ _ _ _ _ (Act.put _ (some 186) _) _
                simp only [Act.put, List.setIfInBounds_toArray, List.set_cons_zero, List.set_cons_succ]
                refine wpAnyH_done (by kernel_rfl) ?_ _
                clear hHeld
                go_wp2
                go_roundw
                case rel => exact ⟨n + 1, tk, by have := HLT.out; omega, by rw [show ((n + 1 : Nat) : Int) = x + 1 by have := HXN.out; omega], TX3, SX3, DX3, BX3, RX3, AX3, OX3⟩
                case measure => simp [intOf]; omega
              · replace htk : tk.getD kn false = false := by simpa using htk
                have ck := (Bwr.out.cell (p := ⟨gK, oK + x.toNat, none⟩) hgK).trans hkc
                have hrg := Rwr.out.blk.lt
                go_upto_region 14 with fail
                go_upto_region 15 with fail
                go_upto_region 16 with fail
                go_upto_region 17 with fail
                clear ck
                have hB : Below wr.heap.size wr (wr.alloc (.cells Tryd.zeroCells94 94)) := (Below.refl _ _).alloc (Nat.le_refl _) _
                have hkz : gk < wr.heap.size := Twr.out.lt
                have SU1 : Hid (Blk (wr.alloc (.cells Tryd.zeroCells94 94)) w.heap.size 29 (w8 seed)) := Lib.hid (Swr.out.below hB Swr.out.lt)
                have DU1 : Hid (Blk (wr.alloc (.cells Tryd.zeroCells94 94)) (w.heap.size + 1) 29 (w8 d)) := Lib.hid (Dwr.out.below hB Dwr.out.lt)
                have BU1 : Hid (Below w.heap.size w (wr.alloc (.cells Tryd.zeroCells94 94))) := Lib.hid (Bwr.out.trans (hB.mono Bwr.out.size))
                have RU1 : Hid (RingAt (wr.alloc (.cells Tryd.zeroCells94 94)) w.heap.size g seed tall tk v) := Lib.hid (Rwr.out.below hB)
                have AU1 : Hid (Blk (wr.alloc (.cells Tryd.zeroCells94 94)) ga 40 [.string firstText, .string roundText]) := Lib.hid (Awr.out.below hB Awr.out.lt)
                have OU1 : Hid (OutAt (wr.alloc (.cells Tryd.zeroCells94 94)) w.heap.size (.slice (some ⟨go, 0, none⟩) (tall + 1) co) seed tall (tall + 1)) := Lib.hid (Owr.out.below hB)
                have TU1 : Hid (Blk (wr.alloc (.cells Tryd.zeroCells94 94)) gk 4 (tkc tk (pw tall))) := Lib.hid (Twr.out.below hB Twr.out.lt)
                have ZU1 : Hid (Blk (wr.alloc (.cells Tryd.zeroCells94 94)) wr.heap.size 94 zsig) := Lib.hid (by
                  have h := Blk.new wr 94 zsig
                  rw [zsig_arr] at h
                  exact h)
                clear hB Swr Dwr Bwr Rwr Awr Owr Twr
                generalize (wr.alloc (.cells Tryd.zeroCells94 94)) = U1 at SU1 DU1 BU1 RU1 AU1 OU1 TU1 ZU1 ⊢
                generalize wr.heap.size = gz at hkz hrg ZU1 ⊢
                have HRD := Lib.hid DU1.out.all
                have cb := (BU1.out.cell (p := ⟨gB, oB + x.toNat, none⟩) hgB).trans hbc
                go_wp2_with (first | (refine wpList_load_mid rfl 29 (.tmp 9) rfl (w.heap.size + 1) 0 rfl (w8 d) _ HRD.out Tryd.underlying29 rfl HID.out ?_))
                refine (sign_ok g kn seed d tall w.heap.size tk v U1 RU1 (Lib.hid (HT.out.below BU1.out HT.out.lt)) HDL HDP hin htk).mono ?_
                rintro e U2 ⟨gw, rfl, hY, hgw, hR, hO⟩
                have hbk := RU1.out.blk
                have hgz : gz < gw := Nat.lt_of_lt_of_le ZU1.out.lt hgw
                have SU2 : Hid (Blk U2 w.heap.size 29 (w8 seed)) := Lib.hid (SU1.out.grown hO (fun e => by injection e with e; omega))
                have DU2 : Hid (Blk U2 (w.heap.size + 1) 29 (w8 d)) := Lib.hid (DU1.out.grown hO (fun e => by injection e with e; omega))
                have BU2 : Hid (Below w.heap.size w U2) := Lib.hid (BU1.out.trans (only_up hO (by omega) BU1.out.size))
                have AU2 : Hid (Blk U2 ga 40 [.string firstText, .string roundText]) := Lib.hid (AU1.out.grown hO (fun e => by injection e with e; omega))
                have OU2 : Hid (OutAt U2 w.heap.size (.slice (some ⟨go, 0, none⟩) (tall + 1) co) seed tall (tall + 1)) := Lib.hid (OU1.out.far hO hbk (by decide) (by decide))
                have TU2 : Hid (Blk U2 gk 4 (tkc tk (pw tall))) := Lib.hid (TU1.out.grown hO (fun e => by injection e with e; omega))
                have ZU2 : Hid (Blk U2 gz 94 zsig) := Lib.hid (ZU1.out.grown hO (fun e => by injection e with e; omega))
                clear SU1 DU1 BU1 AU1 OU1 TU1 ZU1
                have RU2 : Hid (RingAt U2 w.heap.size g seed tall (tk.set kn true) v) := Lib.hid (hR)
                have YU2 : Hid (Blk U2 gw 36 (w8 (rows (wayN seed kn) tall))) := Lib.hid (hY)
                clear hR hY hO hbk hgw HRD cb RU1
                have HSE := Lib.hid (sig_put (signN seed kn d) kn (some ⟨gw, 0, none⟩) tall tall (signN_length _ _ _))
                have HZE : Hid (zsig.toArray.size = (rsg (signN seed kn d) kn (.slice (some ⟨gw, 0, none⟩) tall tall)).toArray.size) := Lib.hid (by rw [zsig_arr]; exact HSE.out.2.1)
                have ct : U2.cell? ⟨gk, kn, none⟩ = some (.bool false) := by rw [TU2.out.cell, tkc_get _ _ _ hin hlen, htk]
                go_upto_region 23 with (first | (refine wpList_store_row rfl 94 (.tmp 19) (.tmp 115) rfl gz (rsg (signN seed kn d) kn (.slice (some ⟨gw, 0, none⟩) tall tall)).toArray rfl rfl 94 _ ZU2.out HSE.out.1 HZE.out HSE.out.2.2 ?_))
                have hO : U2.grownBy (U2.setRow gz (rsg (signN seed kn d) kn (.slice (some ⟨gw, 0, none⟩) tall tall)).toArray) (some gz) := only_setRow (only_refl _ _) _
                have hbk := ZU2.out
                have SU3 : Hid (Blk (U2.setRow gz (rsg (signN seed kn d) kn (.slice (some ⟨gw, 0, none⟩) tall tall)).toArray) w.heap.size 29 (w8 seed)) := Lib.hid (SU2.out.grown hO (fun e => by injection e with e; omega))
                have DU3 : Hid (Blk (U2.setRow gz (rsg (signN seed kn d) kn (.slice (some ⟨gw, 0, none⟩) tall tall)).toArray) (w.heap.size + 1) 29 (w8 d)) := Lib.hid (DU2.out.grown hO (fun e => by injection e with e; omega))
                have BU3 : Hid (Below w.heap.size w (U2.setRow gz (rsg (signN seed kn d) kn (.slice (some ⟨gw, 0, none⟩) tall tall)).toArray)) := Lib.hid (BU2.out.trans (only_up hO (by omega) BU2.out.size))
                have AU3 : Hid (Blk (U2.setRow gz (rsg (signN seed kn d) kn (.slice (some ⟨gw, 0, none⟩) tall tall)).toArray) ga 40 [.string firstText, .string roundText]) := Lib.hid (AU2.out.grown hO (fun e => by injection e with e; omega))
                have OU3 : Hid (OutAt (U2.setRow gz (rsg (signN seed kn d) kn (.slice (some ⟨gw, 0, none⟩) tall tall)).toArray) w.heap.size (.slice (some ⟨go, 0, none⟩) (tall + 1) co) seed tall (tall + 1)) := Lib.hid (OU2.out.far hO hbk (by decide) (by decide))
                have TU3 : Hid (Blk (U2.setRow gz (rsg (signN seed kn d) kn (.slice (some ⟨gw, 0, none⟩) tall tall)).toArray) gk 4 (tkc tk (pw tall))) := Lib.hid (TU2.out.grown hO (fun e => by injection e with e; omega))
                have RU3 : Hid (RingAt (U2.setRow gz (rsg (signN seed kn d) kn (.slice (some ⟨gw, 0, none⟩) tall tall)).toArray) w.heap.size g seed tall (tk.set kn true) v) := Lib.hid (RU2.out.other hO hbk (by decide) (by decide) (by decide))
                have YU3 : Hid (Blk (U2.setRow gz (rsg (signN seed kn d) kn (.slice (some ⟨gw, 0, none⟩) tall tall)).toArray) gw 36 (w8 (rows (wayN seed kn) tall))) := Lib.hid (YU2.out.grown hO (fun e => by injection e with e; omega))
                have ZU3 : Hid (Blk (U2.setRow gz (rsg (signN seed kn d) kn (.slice (some ⟨gw, 0, none⟩) tall tall)).toArray) gz 94 (rsg (signN seed kn d) kn (.slice (some ⟨gw, 0, none⟩) tall tall))) := Lib.hid (ZU2.out.setRow _)
                clear hO hbk ct SU2 DU2 BU2 AU2 OU2 TU2 ZU2 RU2 YU2
                generalize (U2.setRow gz (rsg (signN seed kn d) kn (.slice (some ⟨gw, 0, none⟩) tall tall)).toArray) = U3 at SU3 DU3 BU3 AU3 OU3 TU3 ZU3 RU3 YU3 ⊢
                have ct : U3.cell? ⟨gk, kn, none⟩ = some (.bool false) := by rw [TU3.out.cell, tkc_get _ _ _ hin hlen, htk]
                have et : U3.frozen? ⟨gk, kn, none⟩ = false := TU3.out.frozen _
                go_upto_region 35 with fail
                have hO : U3.grownBy (U3.setCell ⟨gk, kn, none⟩ (.bool true)) (some gk) := only_setCell (only_refl _ _) (.inl rfl) _
                have hbk := TU3.out
                have SU4 : Hid (Blk (U3.setCell ⟨gk, kn, none⟩ (.bool true)) w.heap.size 29 (w8 seed)) := Lib.hid (SU3.out.grown hO (fun e => by injection e with e; omega))
                have DU4 : Hid (Blk (U3.setCell ⟨gk, kn, none⟩ (.bool true)) (w.heap.size + 1) 29 (w8 d)) := Lib.hid (DU3.out.grown hO (fun e => by injection e with e; omega))
                have BU4 : Hid (Below w.heap.size w (U3.setCell ⟨gk, kn, none⟩ (.bool true))) := Lib.hid (BU3.out.trans (only_up hO (by omega) BU3.out.size))
                have AU4 : Hid (Blk (U3.setCell ⟨gk, kn, none⟩ (.bool true)) ga 40 [.string firstText, .string roundText]) := Lib.hid (AU3.out.grown hO (fun e => by injection e with e; omega))
                have OU4 : Hid (OutAt (U3.setCell ⟨gk, kn, none⟩ (.bool true)) w.heap.size (.slice (some ⟨go, 0, none⟩) (tall + 1) co) seed tall (tall + 1)) := Lib.hid (OU3.out.far hO hbk (by decide) (by decide))
                have ZU4 : Hid (Blk (U3.setCell ⟨gk, kn, none⟩ (.bool true)) gz 94 (rsg (signN seed kn d) kn (.slice (some ⟨gw, 0, none⟩) tall tall))) := Lib.hid (ZU3.out.grown hO (fun e => by injection e with e; omega))
                have RU4 : Hid (RingAt (U3.setCell ⟨gk, kn, none⟩ (.bool true)) w.heap.size g seed tall (tk.set kn true) v) := Lib.hid (RU3.out.other hO hbk (by decide) (by decide) (by decide))
                have YU4 : Hid (Blk (U3.setCell ⟨gk, kn, none⟩ (.bool true)) gw 36 (w8 (rows (wayN seed kn) tall))) := Lib.hid (YU3.out.grown hO (fun e => by injection e with e; omega))
                have TU4 : Hid (Blk (U3.setCell ⟨gk, kn, none⟩ (.bool true)) gk 4 (tkc (tk.set kn true) (pw tall))) := Lib.hid (by
                  have h := TU3.out.set_ kn (.bool true)
                  rw [tkc_set] at h
                  exact h)
                clear hO hbk ct et SU3 DU3 BU3 AU3 OU3 TU3 ZU3 RU3 YU3
                generalize (U3.setCell ⟨gk, kn, none⟩ (.bool true)) = U4 at SU4 DU4 BU4 AU4 OU4 TU4 ZU4 RU4 YU4 ⊢
                have HL := Lib.hid (heap_alloc_last U4 (.cells Tryd.zeroCells99 99))
                go_upto_region 36 with (first | (refine wpList_store_row rfl 99 (.tmp 22) (.tmp 151) rfl U4.heap.size zsig.toArray rfl (congrArg Value.agg zsig_arr9.symm) 99 _ HL.out HS9.out HZ9.out HO9.out ?_; rw [World.setRow_alloc_new]))
                have hB : Below U4.heap.size U4 (U4.alloc (.cells zsig.toArray 99)) := (Below.refl _ _).alloc (Nat.le_refl _) _
                have SU5 : Hid (Blk (U4.alloc (.cells zsig.toArray 99)) w.heap.size 29 (w8 seed)) := Lib.hid (SU4.out.below hB SU4.out.lt)
                have DU5 : Hid (Blk (U4.alloc (.cells zsig.toArray 99)) (w.heap.size + 1) 29 (w8 d)) := Lib.hid (DU4.out.below hB DU4.out.lt)
                have BU5 : Hid (Below w.heap.size w (U4.alloc (.cells zsig.toArray 99))) := Lib.hid (BU4.out.trans (hB.mono BU4.out.size))
                have AU5 : Hid (Blk (U4.alloc (.cells zsig.toArray 99)) ga 40 [.string firstText, .string roundText]) := Lib.hid (AU4.out.below hB AU4.out.lt)
                have OU5 : Hid (OutAt (U4.alloc (.cells zsig.toArray 99)) w.heap.size (.slice (some ⟨go, 0, none⟩) (tall + 1) co) seed tall (tall + 1)) := Lib.hid (OU4.out.below hB)
                have TU5 : Hid (Blk (U4.alloc (.cells zsig.toArray 99)) gk 4 (tkc (tk.set kn true) (pw tall))) := Lib.hid (TU4.out.below hB TU4.out.lt)
                have ZU5 : Hid (Blk (U4.alloc (.cells zsig.toArray 99)) gz 94 (rsg (signN seed kn d) kn (.slice (some ⟨gw, 0, none⟩) tall tall))) := Lib.hid (ZU4.out.below hB ZU4.out.lt)
                have RU5 : Hid (RingAt (U4.alloc (.cells zsig.toArray 99)) w.heap.size g seed tall (tk.set kn true) v) := Lib.hid (RU4.out.below hB)
                have YU5 : Hid (Blk (U4.alloc (.cells zsig.toArray 99)) gw 36 (w8 (rows (wayN seed kn) tall))) := Lib.hid (YU4.out.below hB YU4.out.lt)
                have KU5 : Hid (Blk (U4.alloc (.cells zsig.toArray 99)) U4.heap.size 99 zsig) := Lib.hid (Blk.new _ _ _)
                have HGX : Hid (gw < U4.heap.size) := Lib.hid YU4.out.lt
                have HKX : Hid (gz < U4.heap.size) := Lib.hid ZU4.out.lt
                clear hB HL SU4 DU4 BU4 AU4 OU4 TU4 ZU4 RU4 YU4
                generalize (U4.alloc (.cells zsig.toArray 99)) = U5 at SU5 DU5 BU5 AU5 OU5 TU5 ZU5 RU5 YU5 KU5 ⊢
                generalize U4.heap.size = gx at KU5 HKX HGX ⊢
                have hzx := HKX.out
                have cb := (BU5.out.cell (p := ⟨gB, oB + x.toNat, none⟩) hgB).trans hbc
                have HRD := Lib.hid DU5.out.all
                have HRS := Lib.hid SU5.out.all
                have HRA := Lib.hid AU5.out.all
                obtain ⟨XU, hXU⟩ : ∃ q, U5.heap.size = q := ⟨_, rfl⟩
                have hxXU : gx < XU := by rw [← hXU]; exact KU5.out.lt
                go_wp2_with (first | (refine wpList_load_mid rfl 29 (.tmp 9) rfl (w.heap.size + 1) 0 rfl (w8 d) _ HRD.out Tryd.underlying29 rfl HID.out ?_) | (refine wpList_load_mid rfl 29 (.tmp 5) rfl w.heap.size 0 rfl (w8 seed) _ HRS.out Tryd.underlying29 rfl HIS.out ?_) | (refine wpList_load_mid rfl 40 (.tmp 13) rfl ga 0 rfl [.string firstText, .string roundText] _ HRA.out Tryd.underlying40 rfl info40 ?_))
                refine (refsign_any firstText roundText seed d tall kn go co U5 (Lib.hid texts) HL HP HDL HDP (Lib.hid OU5.out.rowsR) hin (by omega)).mono ?_
                rintro e U6 ⟨u, rfl, hU, hB⟩
                rw [hXU] at hU
                have SU6 : Hid (Blk U6 w.heap.size 29 (w8 seed)) := Lib.hid (SU5.out.below hB SU5.out.lt)
                have DU6 : Hid (Blk U6 (w.heap.size + 1) 29 (w8 d)) := Lib.hid (DU5.out.below hB DU5.out.lt)
                have BU6 : Hid (Below w.heap.size w U6) := Lib.hid (BU5.out.trans (hB.mono BU5.out.size))
                have AU6 : Hid (Blk U6 ga 40 [.string firstText, .string roundText]) := Lib.hid (AU5.out.below hB AU5.out.lt)
                have OU6 : Hid (OutAt U6 w.heap.size (.slice (some ⟨go, 0, none⟩) (tall + 1) co) seed tall (tall + 1)) := Lib.hid (OU5.out.below hB)
                have TU6 : Hid (Blk U6 gk 4 (tkc (tk.set kn true) (pw tall))) := Lib.hid (TU5.out.below hB TU5.out.lt)
                have ZU6 : Hid (Blk U6 gz 94 (rsg (signN seed kn d) kn (.slice (some ⟨gw, 0, none⟩) tall tall))) := Lib.hid (ZU5.out.below hB ZU5.out.lt)
                have RU6 : Hid (RingAt U6 w.heap.size g seed tall (tk.set kn true) v) := Lib.hid (RU5.out.below hB)
                have YU6 : Hid (Blk U6 gw 36 (w8 (rows (wayN seed kn) tall))) := Lib.hid (YU5.out.below hB YU5.out.lt)
                have KU6 : Hid (Blk U6 gx 99 zsig) := Lib.hid (KU5.out.below hB KU5.out.lt)
                clear SU5 DU5 BU5 AU5 OU5 TU5 ZU5 RU5 YU5 KU5
                have UU6 : Hid (U6.ownsRow XU 29 32 u tall (w8 (rows (wayN seed kn) tall))) := Lib.hid (hU)
                clear hB hU HRD HRS HRA cb hXU
                have HSX := Lib.hid (sig_put9 (signN seed kn d) kn u (signN_length _ _ _) (wayR_own (wayN_length seed kn) UU6.out).one)
                go_upto_region 38 with (first | (refine wpList_store_row rfl 99 (.tmp 22) (.tmp 168) rfl gx (rsg (signN seed kn d) kn u).toArray rfl rfl 99 _ KU6.out HSX.out.1 HSX.out.2.1 HSX.out.2.2 ?_))
                have hO : U6.grownBy (U6.setRow gx (rsg (signN seed kn d) kn u).toArray) (some gx) := only_setRow (only_refl _ _) _
                have hbk := KU6.out
                have hgx : gw < gx := by have := HGX.out; omega
                have SU7 : Hid (Blk (U6.setRow gx (rsg (signN seed kn d) kn u).toArray) w.heap.size 29 (w8 seed)) := Lib.hid (SU6.out.grown hO (fun e => by injection e with e; omega))
                have DU7 : Hid (Blk (U6.setRow gx (rsg (signN seed kn d) kn u).toArray) (w.heap.size + 1) 29 (w8 d)) := Lib.hid (DU6.out.grown hO (fun e => by injection e with e; omega))
                have BU7 : Hid (Below w.heap.size w (U6.setRow gx (rsg (signN seed kn d) kn u).toArray)) := Lib.hid (BU6.out.trans (only_up hO (by omega) BU6.out.size))
                have AU7 : Hid (Blk (U6.setRow gx (rsg (signN seed kn d) kn u).toArray) ga 40 [.string firstText, .string roundText]) := Lib.hid (AU6.out.grown hO (fun e => by injection e with e; omega))
                have OU7 : Hid (OutAt (U6.setRow gx (rsg (signN seed kn d) kn u).toArray) w.heap.size (.slice (some ⟨go, 0, none⟩) (tall + 1) co) seed tall (tall + 1)) := Lib.hid (OU6.out.far hO hbk (by decide) (by decide))
                have TU7 : Hid (Blk (U6.setRow gx (rsg (signN seed kn d) kn u).toArray) gk 4 (tkc (tk.set kn true) (pw tall))) := Lib.hid (TU6.out.grown hO (fun e => by injection e with e; omega))
                have ZU7 : Hid (Blk (U6.setRow gx (rsg (signN seed kn d) kn u).toArray) gz 94 (rsg (signN seed kn d) kn (.slice (some ⟨gw, 0, none⟩) tall tall))) := Lib.hid (ZU6.out.grown hO (fun e => by injection e with e; omega))
                have RU7 : Hid (RingAt (U6.setRow gx (rsg (signN seed kn d) kn u).toArray) w.heap.size g seed tall (tk.set kn true) v) := Lib.hid (RU6.out.other hO hbk (by decide) (by decide) (by decide))
                have YU7 : Hid (Blk (U6.setRow gx (rsg (signN seed kn d) kn u).toArray) gw 36 (w8 (rows (wayN seed kn) tall))) := Lib.hid (YU6.out.grown hO (fun e => by injection e with e; omega))
                have UU7 : Hid ((U6.setRow gx (rsg (signN seed kn d) kn u).toArray).ownsRow XU 29 32 u tall (w8 (rows (wayN seed kn) tall))) := Lib.hid (own_far UU6.out hO (fun e => by have h5 := (UU6.out.lt _ e).1; omega))
                have KU7 : Hid (Blk (U6.setRow gx (rsg (signN seed kn d) kn u).toArray) gx 99 (rsg (signN seed kn d) kn u)) := Lib.hid (KU6.out.setRow _)
                clear hO hbk SU6 DU6 BU6 AU6 OU6 TU6 ZU6 RU6 YU6 KU6 UU6
                generalize (U6.setRow gx (rsg (signN seed kn d) kn u).toArray) = U7 at SU7 DU7 BU7 AU7 OU7 TU7 ZU7 RU7 YU7 KU7 UU7 ⊢
                have hBz : Below U7.heap.size U7 U7.drew := below_drewN (Below.refl _ _) 1
                have SX0 : Hid (Blk U7.drew w.heap.size 29 (w8 seed)) := Lib.hid (SU7.out.below hBz SU7.out.lt)
                have DX0 : Hid (Blk U7.drew (w.heap.size + 1) 29 (w8 d)) := Lib.hid (DU7.out.below hBz DU7.out.lt)
                have BX0 : Hid (Below w.heap.size w U7.drew) := Lib.hid (BU7.out.trans (hBz.mono BU7.out.size))
                have AX0 : Hid (Blk U7.drew ga 40 [.string firstText, .string roundText]) := Lib.hid (AU7.out.below hBz AU7.out.lt)
                have OX0 : Hid (OutAt U7.drew w.heap.size (.slice (some ⟨go, 0, none⟩) (tall + 1) co) seed tall (tall + 1)) := Lib.hid (OU7.out.below hBz)
                have TX0 : Hid (Blk U7.drew gk 4 (tkc (tk.set kn true) (pw tall))) := Lib.hid (TU7.out.below hBz TU7.out.lt)
                have ZX0 : Hid (Blk U7.drew gz 94 (rsg (signN seed kn d) kn (.slice (some ⟨gw, 0, none⟩) tall tall))) := Lib.hid (ZU7.out.below hBz ZU7.out.lt)
                have RX0 : Hid (RingAt U7.drew w.heap.size g seed tall (tk.set kn true) v) := Lib.hid (RU7.out.below hBz)
                have YX0 : Hid (Blk U7.drew gw 36 (w8 (rows (wayN seed kn) tall))) := Lib.hid (YU7.out.below hBz YU7.out.lt)
                have KX0 : Hid (Blk U7.drew gx 99 (rsg (signN seed kn d) kn u)) := Lib.hid (KU7.out.below hBz KU7.out.lt)
                have UX0 : Hid (U7.drew.ownsRow XU 29 32 u tall (w8 (rows (wayN seed kn) tall))) := Lib.hid (own_keepB UU7.out hBz)
                clear hBz
                refine wp_region_held_drew (S := fun w' => Blk w' gz 94 (rsg (signN seed kn d) kn (.slice (some ⟨gw, 0, none⟩) tall tall)) ∧ Blk w' gx 99 (rsg (signN seed kn d) kn u) ∧ Blk w' gk 4 (tkc (tk.set kn true) (pw tall))) (by kernel_rfl) (⟨ZX0.out, KX0.out, TX0.out⟩) (fun hHeld => ?_)
                generalize U7.drew = X0 at hHeld SX0 DX0 BX0 AX0 OX0 TX0 ZX0 RX0 YX0 KX0 UX0 ⊢
                refine wpAnyH_take (i := 0) (v := .agg (rsg (signN seed kn d) kn (.slice (some ⟨gw, 0, none⟩) tall tall)).toArray) rfl (by kernel_rfl) (by kernel_rfl) (by kernel_rfl) (fun _ _ _ h => h) (yieldsIf_load_mid rfl 94 (.tmp 19) rfl gz 0 rfl (rsg (signN seed kn d) kn (.slice (some ⟨gw, 0, none⟩) tall tall)) _ (fun w' h => Blk.all h.1) Tryd.underlying94 rfl (by rw [rsg_length _ _ _ (signN_length _ _ _)]; exact info94)) hHeld ?_
                show wpAnyH _ _ _ _ _ _ _ (Act.put _ (some 169) _) _
                simp only [Act.put, List.setIfInBounds_toArray, List.set_cons_zero, List.set_cons_succ]
                refine wpAnyH_take (i := 2) (v := .agg (rsg (signN seed kn d) kn u).toArray) rfl (by kernel_rfl) (by kernel_rfl) (by kernel_rfl) (fun _ _ _ h => h) (yieldsIf_load_mid rfl 99 (.tmp 22) rfl gx 0 rfl (rsg (signN seed kn d) kn u) _ (fun w' h => Blk.all h.2.1) Tryd.underlying99 rfl (by rw [rsg_length _ _ _ (signN_length _ _ _)]; exact info99)) hHeld ?_
                show wpAnyH _ _ _ _ _ _ _ (Act.put _ (some 171) _) _
                simp only [Act.put, List.setIfInBounds_toArray, List.set_cons_zero, List.set_cons_succ]
                refine wpAnyH_ready (rs := [1]) (by kernel_rfl) (by simp) ?_
                refine AllReadyH.cons rfl (fun K hK => ?_) AllReadyH.nil
                refine step_call rfl 53 #[.tmp 169] #[94] rfl #[.agg (rsg (signN seed kn d) kn (.slice (some ⟨gw, 0, none⟩) tall tall)).toArray] (by simp [Act.eval]) (by go_simp) (rfrom5_any (signN seed kn d) kn tall (some ⟨gw, 0, none⟩) tall (wayN seed kn) X0 (Lib.hid (signN_length _ _ _)) (Lib.hid (wayN_length seed kn)) (Lib.hid (WayR.blk (wayN seed kn) (wayN_length seed kn) YX0.out)) (by omega)) ?_
                rintro e X1 ⟨vf, rfl, hwf, hB⟩
                have SX1 : Hid (Blk X1 w.heap.size 29 (w8 seed)) := Lib.hid (SX0.out.below hB SX0.out.lt)
                have DX1 : Hid (Blk X1 (w.heap.size + 1) 29 (w8 d)) := Lib.hid (DX0.out.below hB DX0.out.lt)
                have BX1 : Hid (Below w.heap.size w X1) := Lib.hid (BX0.out.trans (hB.mono BX0.out.size))
                have AX1 : Hid (Blk X1 ga 40 [.string firstText, .string roundText]) := Lib.hid (AX0.out.below hB AX0.out.lt)
                have OX1 : Hid (OutAt X1 w.heap.size (.slice (some ⟨go, 0, none⟩) (tall + 1) co) seed tall (tall + 1)) := Lib.hid (OX0.out.below hB)
                have TX1 : Hid (Blk X1 gk 4 (tkc (tk.set kn true) (pw tall))) := Lib.hid (TX0.out.below hB TX0.out.lt)
                have ZX1 : Hid (Blk X1 gz 94 (rsg (signN seed kn d) kn (.slice (some ⟨gw, 0, none⟩) tall tall))) := Lib.hid (ZX0.out.below hB ZX0.out.lt)
                have RX1 : Hid (RingAt X1 w.heap.size g seed tall (tk.set kn true) v) := Lib.hid (RX0.out.below hB)
                have YX1 : Hid (Blk X1 gw 36 (w8 (rows (wayN seed kn) tall))) := Lib.hid (YX0.out.below hB YX0.out.lt)
                have KX1 : Hid (Blk X1 gx 99 (rsg (signN seed kn d) kn u)) := Lib.hid (KX0.out.below hB KX0.out.lt)
                have UX1 : Hid (X1.ownsRow XU 29 32 u tall (w8 (rows (wayN seed kn) tall))) := Lib.hid (own_keepB UX0.out hB)
                have NX1 : Hid (WayR X1 vf (wayN seed kn) tall) := Lib.hid (hwf)
                clear SX0 DX0 BX0 AX0 OX0 TX0 ZX0 RX0 YX0 KX0 UX0 hB hwf
                refine ⟨_, rfl, hK.out _ _ (⟨ZX1.out, KX1.out, TX1.out⟩) (fun hHeld => ?_)⟩
                clear hK K
                show wpAnyH _ _ _ _ _ _ _ (Act.put _ (some 170) _) _
                simp only [Act.put, List.setIfInBounds_toArray, List.set_cons_zero, List.set_cons_succ]
                refine wpAnyH_ready (rs := [3]) (by kernel_rfl) (by simp) ?_
                refine AllReadyH.cons rfl (fun K hK => ?_) AllReadyH.nil
                refine step_call rfl 52 #[.tmp 170, .tmp 171] #[99, 99] rfl #[.agg (rsg (signN seed kn d) kn vf).toArray, .agg (rsg (signN seed kn d) kn u).toArray] (by simp [Act.eval]) (by go_simp) (same_eq (signN seed kn d) kn tall vf u (wayN seed kn) X1 (Lib.hid (signN_length _ _ _)) (Lib.hid (wayN_length seed kn)) NX1 (Lib.hid (wayR_own (wayN_length seed kn) UX1.out)) (by omega)) ?_
                rintro e X2 ⟨rfl, hB⟩
                have SX2 : Hid (Blk X2 w.heap.size 29 (w8 seed)) := Lib.hid (SX1.out.below hB SX1.out.lt)
                have DX2 : Hid (Blk X2 (w.heap.size + 1) 29 (w8 d)) := Lib.hid (DX1.out.below hB DX1.out.lt)
                have BX2 : Hid (Below w.heap.size w X2) := Lib.hid (BX1.out.trans (hB.mono BX1.out.size))
                have AX2 : Hid (Blk X2 ga 40 [.string firstText, .string roundText]) := Lib.hid (AX1.out.below hB AX1.out.lt)
                have OX2 : Hid (OutAt X2 w.heap.size (.slice (some ⟨go, 0, none⟩) (tall + 1) co) seed tall (tall + 1)) := Lib.hid (OX1.out.below hB)
                have TX2 : Hid (Blk X2 gk 4 (tkc (tk.set kn true) (pw tall))) := Lib.hid (TX1.out.below hB TX1.out.lt)
                have ZX2 : Hid (Blk X2 gz 94 (rsg (signN seed kn d) kn (.slice (some ⟨gw, 0, none⟩) tall tall))) := Lib.hid (ZX1.out.below hB ZX1.out.lt)
                have RX2 : Hid (RingAt X2 w.heap.size g seed tall (tk.set kn true) v) := Lib.hid (RX1.out.below hB)
                have YX2 : Hid (Blk X2 gw 36 (w8 (rows (wayN seed kn) tall))) := Lib.hid (YX1.out.below hB YX1.out.lt)
                have KX2 : Hid (Blk X2 gx 99 (rsg (signN seed kn d) kn u)) := Lib.hid (KX1.out.below hB KX1.out.lt)
                have UX2 : Hid (X2.ownsRow XU 29 32 u tall (w8 (rows (wayN seed kn) tall))) := Lib.hid (own_keepB UX1.out hB)
                have NX2 : Hid (WayR X2 vf (wayN seed kn) tall) := Lib.hid (NX1.out.below hB)
                clear SX1 DX1 BX1 AX1 OX1 TX1 ZX1 RX1 YX1 KX1 UX1 NX1 hB
                refine ⟨_, rfl, hK.out _ _ (⟨ZX2.out, KX2.out, TX2.out⟩) (fun hHeld => ?_)⟩
                clear hK K
                show wpAnyH _ _ _ _ _ _ _ (Act.put _ (some 172) _) _
                simp only [Act.put, List.setIfInBounds_toArray, List.set_cons_zero, List.set_cons_succ]
                refine wpAnyH_take (i := 4) (v := .bool false) rfl (by kernel_rfl) (by kernel_rfl) (by kernel_rfl) (fun _ _ _ h => h) (Or.inl ⟨by rfl, by intro w' h; go_simp⟩) hHeld ?_
                show wpAnyH _ _ _ _ _ _ _ (Act.put _ (some 173) _) _
                simp only [Act.put, List.setIfInBounds_toArray, List.set_cons_zero, List.set_cons_succ]
                refine wpAnyH_take (i := 5) (v := .bool false) rfl (by kernel_rfl) (by kernel_rfl) (by kernel_rfl) (fun _ _ _ h => h) (Or.inl ⟨by rfl, fun w _ => by rfl⟩) hHeld ?_
                show wpAnyH _ _ _ _ _ _ _ (Act.put _ (some 174) _) _
                simp only [Act.put, List.setIfInBounds_toArray, List.set_cons_zero, List.set_cons_succ]
                refine wpAnyH_take (i := 6) (v := .pointer (some ⟨g, 0, none⟩)) rfl (by kernel_rfl) (by kernel_rfl) (by kernel_rfl) (fun _ _ _ h => h) (Or.inl ⟨by rfl, fun w _ => by rfl⟩) hHeld ?_
                show wpAnyH _ _ _ _ _ _ _ (Act.put _ (some 175) _) _
                simp only [Act.put, List.setIfInBounds_toArray, List.set_cons_zero, List.set_cons_succ]
                refine wpAnyH_take (i := 7) (v := .int .u32 (kn : Int)) rfl (by kernel_rfl) (by kernel_rfl) (by kernel_rfl) (fun _ _ _ h => h) (Or.inl ⟨by rfl, fun w _ => by rfl⟩) hHeld ?_
                show wpAnyH _ _ _ _ _ _ _ (Act.put _ (some 176) _) _
                simp only [Act.put, List.setIfInBounds_toArray, List.set_cons_zero, List.set_cons_succ]
                refine wpAnyH_take (i := 9) (v := .bool true) rfl (by kernel_rfl) (by kernel_rfl) (by kernel_rfl) (fun _ _ _ h => h) (Or.inl ⟨by rfl, fun w _ => by rfl⟩) hHeld ?_
                show wpAnyH _ _ _ _ _ _ _ (Act.put _ (some 178) _) _
                simp only [Act.put, List.setIfInBounds_toArray, List.set_cons_zero, List.set_cons_succ]
                refine wpAnyH_ready (rs := [8]) (by kernel_rfl) (by simp) ?_
                refine AllReadyH.cons rfl (fun K hK => ?_) AllReadyH.nil
                have hcT := taken_any g kn seed tall w.heap.size (tk.set kn true) v X2 RX2 HK32.out
                rw [decide_eq_true hin, set_got tk kn hkl, Bool.true_and] at hcT
                refine step_call rfl 54 #[.tmp 175, .tmp 176] #[84, 38] rfl #[.pointer (some ⟨g, 0, none⟩), .int .u32 (kn : Int)] (by simp [Act.eval]) (by go_simp) (hcT) ?_
                rintro e X3 ⟨rfl, hB⟩
                have SX3 : Hid (Blk X3 w.heap.size 29 (w8 seed)) := Lib.hid (SX2.out.below hB SX2.out.lt)
                have DX3 : Hid (Blk X3 (w.heap.size + 1) 29 (w8 d)) := Lib.hid (DX2.out.below hB DX2.out.lt)
                have BX3 : Hid (Below w.heap.size w X3) := Lib.hid (BX2.out.trans (hB.mono BX2.out.size))
                have AX3 : Hid (Blk X3 ga 40 [.string firstText, .string roundText]) := Lib.hid (AX2.out.below hB AX2.out.lt)
                have OX3 : Hid (OutAt X3 w.heap.size (.slice (some ⟨go, 0, none⟩) (tall + 1) co) seed tall (tall + 1)) := Lib.hid (OX2.out.below hB)
                have TX3 : Hid (Blk X3 gk 4 (tkc (tk.set kn true) (pw tall))) := Lib.hid (TX2.out.below hB TX2.out.lt)
                have ZX3 : Hid (Blk X3 gz 94 (rsg (signN seed kn d) kn (.slice (some ⟨gw, 0, none⟩) tall tall))) := Lib.hid (ZX2.out.below hB ZX2.out.lt)
                have RX3 : Hid (RingAt X3 w.heap.size g seed tall (tk.set kn true) v) := Lib.hid (RX2.out.below hB)
                have YX3 : Hid (Blk X3 gw 36 (w8 (rows (wayN seed kn) tall))) := Lib.hid (YX2.out.below hB YX2.out.lt)
                have KX3 : Hid (Blk X3 gx 99 (rsg (signN seed kn d) kn u)) := Lib.hid (KX2.out.below hB KX2.out.lt)
                have UX3 : Hid (X3.ownsRow XU 29 32 u tall (w8 (rows (wayN seed kn) tall))) := Lib.hid (own_keepB UX2.out hB)
                have NX3 : Hid (WayR X3 vf (wayN seed kn) tall) := Lib.hid (NX2.out.below hB)
                clear SX2 DX2 BX2 AX2 OX2 TX2 ZX2 RX2 YX2 KX2 UX2 NX2 hB
                refine ⟨_, rfl, hK.out _ _ (⟨ZX3.out, KX3.out, TX3.out⟩) (fun hHeld => ?_)⟩
                clear hK K
                show wpAnyH _ _ _ _ _ _ _ (Act.put _ (some 177) _) _
                simp only [Act.put, List.setIfInBounds_toArray, List.set_cons_zero, List.set_cons_succ]
                refine wpAnyH_take (i := 10) (v := .bool true) rfl (by kernel_rfl) (by kernel_rfl) (by kernel_rfl) (fun _ _ _ h => h) (Or.inl ⟨by rfl, fun w _ => by rfl⟩) hHeld ?_
                show wpAnyH _ _ _ _ _ _ _ (Act.put _ (some 179) _) _
                simp only [Act.put, List.setIfInBounds_toArray, List.set_cons_zero, List.set_cons_succ]
                refine wpAnyH_take (i := 11) (v := .slice (some ⟨gk, 0, none⟩) (pw tall) (pw tall)) rfl (by kernel_rfl) (by kernel_rfl) (by kernel_rfl) (fun _ _ _ h => h) (Or.inl ⟨by rfl, fun w _ => by rfl⟩) hHeld ?_
                show wpAnyH _ _ _ _ _ _ _ (Act.put _ (some 180) _) _
                simp only [Act.put, List.setIfInBounds_toArray, List.set_cons_zero, List.set_cons_succ]
                refine wpAnyH_take (i := 12) (v := .int .u32 (kn : Int)) rfl (by kernel_rfl) (by kernel_rfl) (by kernel_rfl) (fun _ _ _ h => h) (Or.inl ⟨by rfl, fun w _ => by rfl⟩) hHeld ?_
                show wpAnyH _ _ _ _ _ _ _ (Act.put _ (some 181) _) _
                simp only [Act.put, List.setIfInBounds_toArray, List.set_cons_zero, List.set_cons_succ]
                refine wpAnyH_take (i := 13) (v := .pointer (some ⟨gk, kn, none⟩)) rfl (by kernel_rfl) (by kernel_rfl) (by kernel_rfl) (fun _ _ _ h => h) (Or.inl ⟨by rfl, by intro w' h; go_simp⟩) hHeld ?_
                show wpAnyH _ _ _ _ _ _ _ (Act.put _ (some 182) _) _
                simp only [Act.put, List.setIfInBounds_toArray, List.set_cons_zero, List.set_cons_succ]
                refine wpAnyH_take (i := 14) (v := .bool true) rfl (by kernel_rfl) (by kernel_rfl) (by kernel_rfl) (fun _ _ _ h => h) (Or.inl ⟨by rfl, by intro w' h; have q9 := h.2.2.cell kn; rw [tkc_get _ _ _ hin (by simp [hl256]; omega), set_got tk kn hkl] at q9; go_simp⟩) hHeld ?_
                show wpAnyH _ _ _ _ _ _ _ (Act.put _ (some 183) _) _
                simp only [Act.put, List.setIfInBounds_toArray, List.set_cons_zero, List.set_cons_succ]
                refine wpAnyH_take (i := 15) (v := .bool true) rfl (by kernel_rfl) (by kernel_rfl) (by kernel_rfl) (fun _ _ _ h => h) (Or.inl ⟨by rfl, by intro w hSw; first | rfl | go_simp⟩) hHeld ?_
                show wpAnyH _ _ _ _ _ _ _ (Act.put _ (some 184) _) _
                simp only [Act.put, List.setIfInBounds_toArray, List.set_cons_zero, List.set_cons_succ]
                refine wpAnyH_take (i := 16) (v := .bool false) rfl (by kernel_rfl) (by kernel_rfl) (by kernel_rfl) (fun _ _ _ h => h) (Or.inl ⟨by rfl, by intro w' h; go_simp⟩) hHeld ?_
                show wpAnyH _ _ _ _ _ _ _ (Act.put _ (some 185) _) _
                simp only [Act.put, List.setIfInBounds_toArray, List.set_cons_zero, List.set_cons_succ]
                refine wpAnyH_take (i := 17) (v := .bool false) rfl (by kernel_rfl) (by kernel_rfl) (by kernel_rfl) (fun _ _ _ h => h) (Or.inl ⟨by rfl, by intro w hSw; first | rfl | go_simp⟩) hHeld ?_
                show wpAnyH _ _ _ _ _ _ _ (Act.put _ (some 186) _) _
                simp only [Act.put, List.setIfInBounds_toArray, List.set_cons_zero, List.set_cons_succ]
                refine wpAnyH_done (by kernel_rfl) ?_ _
                clear hHeld
                go_wp2
                go_roundw
                case rel => exact ⟨n + 1, (tk.set kn true), by have := HLT.out; omega, by rw [show ((n + 1 : Nat) : Int) = x + 1 by have := HXN.out; omega], TX3, SX3, DX3, BX3, RX3, AX3, OX3⟩
                case measure => simp [intOf]; omega
            · have hini : ¬ (kn : Int) < ((pw tall : Nat) : Int) := by omega
              have ck := (Bwr.out.cell (p := ⟨gK, oK + x.toNat, none⟩) hgK).trans hkc
              have hrg := Rwr.out.blk.lt
              go_upto_region 14 with fail
              go_upto_region 15 with fail
              go_upto_region 16 with fail
              go_upto_region 17 with fail
              clear ck
              have hB : Below wr.heap.size wr (wr.alloc (.cells Tryd.zeroCells94 94)) := (Below.refl _ _).alloc (Nat.le_refl _) _
              have hkz : gk < wr.heap.size := Twr.out.lt
              have SU1 : Hid (Blk (wr.alloc (.cells Tryd.zeroCells94 94)) w.heap.size 29 (w8 seed)) := Lib.hid (Swr.out.below hB Swr.out.lt)
              have DU1 : Hid (Blk (wr.alloc (.cells Tryd.zeroCells94 94)) (w.heap.size + 1) 29 (w8 d)) := Lib.hid (Dwr.out.below hB Dwr.out.lt)
              have BU1 : Hid (Below w.heap.size w (wr.alloc (.cells Tryd.zeroCells94 94))) := Lib.hid (Bwr.out.trans (hB.mono Bwr.out.size))
              have RU1 : Hid (RingAt (wr.alloc (.cells Tryd.zeroCells94 94)) w.heap.size g seed tall tk v) := Lib.hid (Rwr.out.below hB)
              have AU1 : Hid (Blk (wr.alloc (.cells Tryd.zeroCells94 94)) ga 40 [.string firstText, .string roundText]) := Lib.hid (Awr.out.below hB Awr.out.lt)
              have OU1 : Hid (OutAt (wr.alloc (.cells Tryd.zeroCells94 94)) w.heap.size (.slice (some ⟨go, 0, none⟩) (tall + 1) co) seed tall (tall + 1)) := Lib.hid (Owr.out.below hB)
              have TU1 : Hid (Blk (wr.alloc (.cells Tryd.zeroCells94 94)) gk 4 (tkc tk (pw tall))) := Lib.hid (Twr.out.below hB Twr.out.lt)
              have ZU1 : Hid (Blk (wr.alloc (.cells Tryd.zeroCells94 94)) wr.heap.size 94 zsig) := Lib.hid (by
                have h := Blk.new wr 94 zsig
                rw [zsig_arr] at h
                exact h)
              clear hB Swr Dwr Bwr Rwr Awr Owr Twr
              generalize (wr.alloc (.cells Tryd.zeroCells94 94)) = U1 at SU1 DU1 BU1 RU1 AU1 OU1 TU1 ZU1 ⊢
              generalize wr.heap.size = gz at hkz hrg ZU1 ⊢
              have HRD := Lib.hid DU1.out.all
              have cb := (BU1.out.cell (p := ⟨gB, oB + x.toNat, none⟩) hgB).trans hbc
              go_wp2_with (first | (refine wpList_load_mid rfl 29 (.tmp 9) rfl (w.heap.size + 1) 0 rfl (w8 d) _ HRD.out Tryd.underlying29 rfl HID.out ?_))
              refine (sign_far g kn seed d tall w.heap.size tk v U1 RU1 HK32.out hin).mono ?_
              rintro e U2 ⟨rfl, hB⟩
              have SU2 : Hid (Blk U2 w.heap.size 29 (w8 seed)) := Lib.hid (SU1.out.below hB SU1.out.lt)
              have DU2 : Hid (Blk U2 (w.heap.size + 1) 29 (w8 d)) := Lib.hid (DU1.out.below hB DU1.out.lt)
              have BU2 : Hid (Below w.heap.size w U2) := Lib.hid (BU1.out.trans (hB.mono BU1.out.size))
              have RU2 : Hid (RingAt U2 w.heap.size g seed tall tk v) := Lib.hid (RU1.out.below hB)
              have AU2 : Hid (Blk U2 ga 40 [.string firstText, .string roundText]) := Lib.hid (AU1.out.below hB AU1.out.lt)
              have OU2 : Hid (OutAt U2 w.heap.size (.slice (some ⟨go, 0, none⟩) (tall + 1) co) seed tall (tall + 1)) := Lib.hid (OU1.out.below hB)
              have TU2 : Hid (Blk U2 gk 4 (tkc tk (pw tall))) := Lib.hid (TU1.out.below hB TU1.out.lt)
              have ZU2 : Hid (Blk U2 gz 94 zsig) := Lib.hid (ZU1.out.below hB ZU1.out.lt)
              clear SU1 DU1 BU1 RU1 AU1 OU1 TU1 ZU1
              clear hB HRD cb
              go_upto_region 23 with (first | (refine wpList_store_row rfl 94 (.tmp 19) (.tmp 115) rfl gz zsig.toArray rfl rfl 94 _ ZU2.out HS5.out rfl HO5.out ?_))
              have hO : U2.grownBy (U2.setRow gz zsig.toArray) (some gz) := only_setRow (only_refl _ _) _
              have hbk := ZU2.out
              have SU3 : Hid (Blk (U2.setRow gz zsig.toArray) w.heap.size 29 (w8 seed)) := Lib.hid (SU2.out.grown hO (fun e => by injection e with e; omega))
              have DU3 : Hid (Blk (U2.setRow gz zsig.toArray) (w.heap.size + 1) 29 (w8 d)) := Lib.hid (DU2.out.grown hO (fun e => by injection e with e; omega))
              have BU3 : Hid (Below w.heap.size w (U2.setRow gz zsig.toArray)) := Lib.hid (BU2.out.trans (only_up hO (by omega) BU2.out.size))
              have RU3 : Hid (RingAt (U2.setRow gz zsig.toArray) w.heap.size g seed tall tk v) := Lib.hid (RU2.out.other hO hbk (by decide) (by decide) (by decide))
              have AU3 : Hid (Blk (U2.setRow gz zsig.toArray) ga 40 [.string firstText, .string roundText]) := Lib.hid (AU2.out.grown hO (fun e => by injection e with e; omega))
              have OU3 : Hid (OutAt (U2.setRow gz zsig.toArray) w.heap.size (.slice (some ⟨go, 0, none⟩) (tall + 1) co) seed tall (tall + 1)) := Lib.hid (OU2.out.far hO hbk (by decide) (by decide))
              have TU3 : Hid (Blk (U2.setRow gz zsig.toArray) gk 4 (tkc tk (pw tall))) := Lib.hid (TU2.out.grown hO (fun e => by injection e with e; omega))
              have ZU3 : Hid (Blk (U2.setRow gz zsig.toArray) gz 94 zsig) := Lib.hid (ZU2.out.setRow _)
              clear hO hbk SU2 DU2 BU2 RU2 AU2 OU2 TU2 ZU2
              generalize (U2.setRow gz zsig.toArray) = U3 at SU3 DU3 BU3 RU3 AU3 OU3 TU3 ZU3 ⊢
              go_upto_region 35 with fail
              have HL := Lib.hid (heap_alloc_last U3 (.cells Tryd.zeroCells99 99))
              go_upto_region 36 with (first | (refine wpList_store_row rfl 99 (.tmp 22) (.tmp 151) rfl U3.heap.size zsig.toArray rfl (congrArg Value.agg zsig_arr9.symm) 99 _ HL.out HS9.out HZ9.out HO9.out ?_; rw [World.setRow_alloc_new]))
              have hB : Below U3.heap.size U3 (U3.alloc (.cells zsig.toArray 99)) := (Below.refl _ _).alloc (Nat.le_refl _) _
              have SU4 : Hid (Blk (U3.alloc (.cells zsig.toArray 99)) w.heap.size 29 (w8 seed)) := Lib.hid (SU3.out.below hB SU3.out.lt)
              have DU4 : Hid (Blk (U3.alloc (.cells zsig.toArray 99)) (w.heap.size + 1) 29 (w8 d)) := Lib.hid (DU3.out.below hB DU3.out.lt)
              have BU4 : Hid (Below w.heap.size w (U3.alloc (.cells zsig.toArray 99))) := Lib.hid (BU3.out.trans (hB.mono BU3.out.size))
              have RU4 : Hid (RingAt (U3.alloc (.cells zsig.toArray 99)) w.heap.size g seed tall tk v) := Lib.hid (RU3.out.below hB)
              have AU4 : Hid (Blk (U3.alloc (.cells zsig.toArray 99)) ga 40 [.string firstText, .string roundText]) := Lib.hid (AU3.out.below hB AU3.out.lt)
              have OU4 : Hid (OutAt (U3.alloc (.cells zsig.toArray 99)) w.heap.size (.slice (some ⟨go, 0, none⟩) (tall + 1) co) seed tall (tall + 1)) := Lib.hid (OU3.out.below hB)
              have TU4 : Hid (Blk (U3.alloc (.cells zsig.toArray 99)) gk 4 (tkc tk (pw tall))) := Lib.hid (TU3.out.below hB TU3.out.lt)
              have ZU4 : Hid (Blk (U3.alloc (.cells zsig.toArray 99)) gz 94 zsig) := Lib.hid (ZU3.out.below hB ZU3.out.lt)
              have KU4 : Hid (Blk (U3.alloc (.cells zsig.toArray 99)) U3.heap.size 99 zsig) := Lib.hid (Blk.new _ _ _)
              have HKX : Hid (gz < U3.heap.size) := Lib.hid ZU3.out.lt
              clear hB HL SU3 DU3 BU3 RU3 AU3 OU3 TU3 ZU3
              generalize (U3.alloc (.cells zsig.toArray 99)) = U4 at SU4 DU4 BU4 RU4 AU4 OU4 TU4 ZU4 KU4 ⊢
              generalize U3.heap.size = gx at KU4 HKX ⊢
              have hzx := HKX.out
              have cb := (BU4.out.cell (p := ⟨gB, oB + x.toNat, none⟩) hgB).trans hbc
              go_upto_region 38 with fail
              clear cb
              have hBz : Below U4.heap.size U4 U4.drew := below_drewN (Below.refl _ _) 1
              have SX0 : Hid (Blk U4.drew w.heap.size 29 (w8 seed)) := Lib.hid (SU4.out.below hBz SU4.out.lt)
              have DX0 : Hid (Blk U4.drew (w.heap.size + 1) 29 (w8 d)) := Lib.hid (DU4.out.below hBz DU4.out.lt)
              have BX0 : Hid (Below w.heap.size w U4.drew) := Lib.hid (BU4.out.trans (hBz.mono BU4.out.size))
              have RX0 : Hid (RingAt U4.drew w.heap.size g seed tall tk v) := Lib.hid (RU4.out.below hBz)
              have AX0 : Hid (Blk U4.drew ga 40 [.string firstText, .string roundText]) := Lib.hid (AU4.out.below hBz AU4.out.lt)
              have OX0 : Hid (OutAt U4.drew w.heap.size (.slice (some ⟨go, 0, none⟩) (tall + 1) co) seed tall (tall + 1)) := Lib.hid (OU4.out.below hBz)
              have TX0 : Hid (Blk U4.drew gk 4 (tkc tk (pw tall))) := Lib.hid (TU4.out.below hBz TU4.out.lt)
              have ZX0 : Hid (Blk U4.drew gz 94 zsig) := Lib.hid (ZU4.out.below hBz ZU4.out.lt)
              have KX0 : Hid (Blk U4.drew gx 99 zsig) := Lib.hid (KU4.out.below hBz KU4.out.lt)
              clear hBz
              refine wp_region_held_drew (S := fun w' => Blk w' gz 94 zsig ∧ Blk w' gx 99 zsig ∧ Blk w' gk 4 (tkc tk (pw tall))) (by kernel_rfl) (⟨ZX0.out, KX0.out, TX0.out⟩) (fun hHeld => ?_)
              generalize U4.drew = X0 at hHeld SX0 DX0 BX0 RX0 AX0 OX0 TX0 ZX0 KX0 ⊢
              refine wpAnyH_take (i := 0) (v := .agg zsig.toArray) rfl (by kernel_rfl) (by kernel_rfl) (by kernel_rfl) (fun _ _ _ h => h) (yieldsIf_load_mid rfl 94 (.tmp 19) rfl gz 0 rfl zsig _ (fun w' h => Blk.all h.1) Tryd.underlying94 rfl (by rw [zsig_length]; exact info94)) hHeld ?_
              show wpAnyH _ _ _ _ _ _ _ (Act.put _ (some 169) _) _
              simp only [Act.put, List.setIfInBounds_toArray, List.set_cons_zero, List.set_cons_succ]
              refine wpAnyH_take (i := 2) (v := .agg zsig.toArray) rfl (by kernel_rfl) (by kernel_rfl) (by kernel_rfl) (fun _ _ _ h => h) (yieldsIf_load_mid rfl 99 (.tmp 22) rfl gx 0 rfl zsig _ (fun w' h => Blk.all h.2.1) Tryd.underlying99 rfl (by rw [zsig_length]; exact info99)) hHeld ?_
              show wpAnyH _ _ _ _ _ _ _ (Act.put _ (some 171) _) _
              simp only [Act.put, List.setIfInBounds_toArray, List.set_cons_zero, List.set_cons_succ]
              refine wpAnyH_ready (rs := [1]) (by kernel_rfl) (by simp) ?_
              refine AllReadyH.cons rfl (fun K hK => ?_) AllReadyH.nil
              refine step_call rfl 53 #[.tmp 169] #[94] rfl #[.agg zsig.toArray] (by simp [Act.eval]) (by go_simp) (from_zero X0) ?_
              rintro e X1 ⟨vf, rfl, hwf, hB⟩
              have SX1 : Hid (Blk X1 w.heap.size 29 (w8 seed)) := Lib.hid (SX0.out.below hB SX0.out.lt)
              have DX1 : Hid (Blk X1 (w.heap.size + 1) 29 (w8 d)) := Lib.hid (DX0.out.below hB DX0.out.lt)
              have BX1 : Hid (Below w.heap.size w X1) := Lib.hid (BX0.out.trans (hB.mono BX0.out.size))
              have RX1 : Hid (RingAt X1 w.heap.size g seed tall tk v) := Lib.hid (RX0.out.below hB)
              have AX1 : Hid (Blk X1 ga 40 [.string firstText, .string roundText]) := Lib.hid (AX0.out.below hB AX0.out.lt)
              have OX1 : Hid (OutAt X1 w.heap.size (.slice (some ⟨go, 0, none⟩) (tall + 1) co) seed tall (tall + 1)) := Lib.hid (OX0.out.below hB)
              have TX1 : Hid (Blk X1 gk 4 (tkc tk (pw tall))) := Lib.hid (TX0.out.below hB TX0.out.lt)
              have ZX1 : Hid (Blk X1 gz 94 zsig) := Lib.hid (ZX0.out.below hB ZX0.out.lt)
              have KX1 : Hid (Blk X1 gx 99 zsig) := Lib.hid (KX0.out.below hB KX0.out.lt)
              have NX1 : Hid (WayR X1 vf zW 0) := Lib.hid (hwf)
              clear SX0 DX0 BX0 RX0 AX0 OX0 TX0 ZX0 KX0 hB hwf
              refine ⟨_, rfl, hK.out _ _ (⟨ZX1.out, KX1.out, TX1.out⟩) (fun hHeld => ?_)⟩
              clear hK K
              show wpAnyH _ _ _ _ _ _ _ (Act.put _ (some 170) _) _
              simp only [Act.put, List.setIfInBounds_toArray, List.set_cons_zero, List.set_cons_succ]
              refine wpAnyH_ready (rs := [3]) (by kernel_rfl) (by simp) ?_
              refine AllReadyH.cons rfl (fun K hK => ?_) AllReadyH.nil
              refine step_call rfl 52 #[.tmp 170, .tmp 171] #[99, 99] rfl #[.agg (rsg zS 0 vf).toArray, .agg zsig.toArray] (by simp [Act.eval]) (by go_simp) (same_zero vf X1 NX1) ?_
              rintro e X2 ⟨rfl, hB⟩
              have SX2 : Hid (Blk X2 w.heap.size 29 (w8 seed)) := Lib.hid (SX1.out.below hB SX1.out.lt)
              have DX2 : Hid (Blk X2 (w.heap.size + 1) 29 (w8 d)) := Lib.hid (DX1.out.below hB DX1.out.lt)
              have BX2 : Hid (Below w.heap.size w X2) := Lib.hid (BX1.out.trans (hB.mono BX1.out.size))
              have RX2 : Hid (RingAt X2 w.heap.size g seed tall tk v) := Lib.hid (RX1.out.below hB)
              have AX2 : Hid (Blk X2 ga 40 [.string firstText, .string roundText]) := Lib.hid (AX1.out.below hB AX1.out.lt)
              have OX2 : Hid (OutAt X2 w.heap.size (.slice (some ⟨go, 0, none⟩) (tall + 1) co) seed tall (tall + 1)) := Lib.hid (OX1.out.below hB)
              have TX2 : Hid (Blk X2 gk 4 (tkc tk (pw tall))) := Lib.hid (TX1.out.below hB TX1.out.lt)
              have ZX2 : Hid (Blk X2 gz 94 zsig) := Lib.hid (ZX1.out.below hB ZX1.out.lt)
              have KX2 : Hid (Blk X2 gx 99 zsig) := Lib.hid (KX1.out.below hB KX1.out.lt)
              have NX2 : Hid (WayR X2 vf zW 0) := Lib.hid (NX1.out.below hB)
              clear SX1 DX1 BX1 RX1 AX1 OX1 TX1 ZX1 KX1 NX1 hB
              refine ⟨_, rfl, hK.out _ _ (⟨ZX2.out, KX2.out, TX2.out⟩) (fun hHeld => ?_)⟩
              clear hK K
              show wpAnyH _ _ _ _ _ _ _ (Act.put _ (some 172) _) _
              simp only [Act.put, List.setIfInBounds_toArray, List.set_cons_zero, List.set_cons_succ]
              refine wpAnyH_take (i := 4) (v := .bool false) rfl (by kernel_rfl) (by kernel_rfl) (by kernel_rfl) (fun _ _ _ h => h) (Or.inl ⟨by rfl, by intro w' h; go_simp⟩) hHeld ?_
              show wpAnyH _ _ _ _ _ _ _ (Act.put _ (some 173) _) _
              simp only [Act.put, List.setIfInBounds_toArray, List.set_cons_zero, List.set_cons_succ]
              refine wpAnyH_take (i := 5) (v := .bool false) rfl (by kernel_rfl) (by kernel_rfl) (by kernel_rfl) (fun _ _ _ h => h) (Or.inl ⟨by rfl, fun w _ => by rfl⟩) hHeld ?_
              show wpAnyH _ _ _ _ _ _ _ (Act.put _ (some 174) _) _
              simp only [Act.put, List.setIfInBounds_toArray, List.set_cons_zero, List.set_cons_succ]
              refine wpAnyH_take (i := 6) (v := .pointer (some ⟨g, 0, none⟩)) rfl (by kernel_rfl) (by kernel_rfl) (by kernel_rfl) (fun _ _ _ h => h) (Or.inl ⟨by rfl, fun w _ => by rfl⟩) hHeld ?_
              show wpAnyH _ _ _ _ _ _ _ (Act.put _ (some 175) _) _
              simp only [Act.put, List.setIfInBounds_toArray, List.set_cons_zero, List.set_cons_succ]
              refine wpAnyH_take (i := 7) (v := .int .u32 (kn : Int)) rfl (by kernel_rfl) (by kernel_rfl) (by kernel_rfl) (fun _ _ _ h => h) (Or.inl ⟨by rfl, fun w _ => by rfl⟩) hHeld ?_
              show wpAnyH _ _ _ _ _ _ _ (Act.put _ (some 176) _) _
              simp only [Act.put, List.setIfInBounds_toArray, List.set_cons_zero, List.set_cons_succ]
              refine wpAnyH_take (i := 9) (v := .bool false) rfl (by kernel_rfl) (by kernel_rfl) (by kernel_rfl) (fun _ _ _ h => h) (Or.inl ⟨by rfl, fun w _ => by rfl⟩) hHeld ?_
              show wpAnyH _ _ _ _ _ _ _ (Act.put _ (some 178) _) _
              simp only [Act.put, List.setIfInBounds_toArray, List.set_cons_zero, List.set_cons_succ]
              refine wpAnyH_ready (rs := [8]) (by kernel_rfl) (by simp) ?_
              refine AllReadyH.cons rfl (fun K hK => ?_) AllReadyH.nil
              have hcT := taken_any g kn seed tall w.heap.size tk v X2 RX2 HK32.out
              rw [decide_eq_false hin, Bool.false_and] at hcT
              refine step_call rfl 54 #[.tmp 175, .tmp 176] #[84, 38] rfl #[.pointer (some ⟨g, 0, none⟩), .int .u32 (kn : Int)] (by simp [Act.eval]) (by go_simp) (hcT) ?_
              rintro e X3 ⟨rfl, hB⟩
              have SX3 : Hid (Blk X3 w.heap.size 29 (w8 seed)) := Lib.hid (SX2.out.below hB SX2.out.lt)
              have DX3 : Hid (Blk X3 (w.heap.size + 1) 29 (w8 d)) := Lib.hid (DX2.out.below hB DX2.out.lt)
              have BX3 : Hid (Below w.heap.size w X3) := Lib.hid (BX2.out.trans (hB.mono BX2.out.size))
              have RX3 : Hid (RingAt X3 w.heap.size g seed tall tk v) := Lib.hid (RX2.out.below hB)
              have AX3 : Hid (Blk X3 ga 40 [.string firstText, .string roundText]) := Lib.hid (AX2.out.below hB AX2.out.lt)
              have OX3 : Hid (OutAt X3 w.heap.size (.slice (some ⟨go, 0, none⟩) (tall + 1) co) seed tall (tall + 1)) := Lib.hid (OX2.out.below hB)
              have TX3 : Hid (Blk X3 gk 4 (tkc tk (pw tall))) := Lib.hid (TX2.out.below hB TX2.out.lt)
              have ZX3 : Hid (Blk X3 gz 94 zsig) := Lib.hid (ZX2.out.below hB ZX2.out.lt)
              have KX3 : Hid (Blk X3 gx 99 zsig) := Lib.hid (KX2.out.below hB KX2.out.lt)
              have NX3 : Hid (WayR X3 vf zW 0) := Lib.hid (NX2.out.below hB)
              clear SX2 DX2 BX2 RX2 AX2 OX2 TX2 ZX2 KX2 NX2 hB
              refine ⟨_, rfl, hK.out _ _ (⟨ZX3.out, KX3.out, TX3.out⟩) (fun hHeld => ?_)⟩
              clear hK K
              show wpAnyH _ _ _ _ _ _ _ (Act.put _ (some 177) _) _
              simp only [Act.put, List.setIfInBounds_toArray, List.set_cons_zero, List.set_cons_succ]
              refine wpAnyH_take (i := 10) (v := .bool false) rfl (by kernel_rfl) (by kernel_rfl) (by kernel_rfl) (fun _ _ _ h => h) (Or.inl ⟨by rfl, fun w _ => by rfl⟩) hHeld ?_
              show wpAnyH _ _ _ _ _ _ _ (Act.put _ (some 179) _) _
              simp only [Act.put, List.setIfInBounds_toArray, List.set_cons_zero, List.set_cons_succ]
              refine wpAnyH_take (i := 11) (v := undef) rfl (by kernel_rfl) (by kernel_rfl) (by kernel_rfl) (fun _ _ _ h => h) (Or.inr ⟨by rfl, rfl⟩) hHeld ?_
              show wpAnyH _ _ _ _ _ _ _ (Act.put _ (some 180) _) _
              simp only [Act.put, List.setIfInBounds_toArray, List.set_cons_zero, List.set_cons_succ]
              refine wpAnyH_take (i := 12) (v := undef) rfl (by kernel_rfl) (by kernel_rfl) (by kernel_rfl) (fun _ _ _ h => h) (Or.inr ⟨by rfl, rfl⟩) hHeld ?_
              show wpAnyH _ _ _ _ _ _ _ (Act.put _ (some 181) _) _
              simp only [Act.put, List.setIfInBounds_toArray, List.set_cons_zero, List.set_cons_succ]
              refine wpAnyH_take (i := 13) (v := undef) rfl (by kernel_rfl) (by kernel_rfl) (by kernel_rfl) (fun _ _ _ h => h) (Or.inr ⟨by rfl, rfl⟩) hHeld ?_
              show wpAnyH _ _ _ _ _ _ _ (Act.put _ (some 182) _) _
              simp only [Act.put, List.setIfInBounds_toArray, List.set_cons_zero, List.set_cons_succ]
              refine wpAnyH_take (i := 14) (v := undef) rfl (by kernel_rfl) (by kernel_rfl) (by kernel_rfl) (fun _ _ _ h => h) (Or.inr ⟨by rfl, rfl⟩) hHeld ?_
              show wpAnyH _ _ _ _ _ _ _ (Act.put _ (some 183) _) _
              simp only [Act.put, List.setIfInBounds_toArray, List.set_cons_zero, List.set_cons_succ]
              refine wpAnyH_take (i := 15) (v := .bool false) rfl (by kernel_rfl) (by kernel_rfl) (by kernel_rfl) (fun _ _ _ h => h) (Or.inl ⟨by rfl, by intro w hSw; first | rfl | go_simp⟩) hHeld ?_
              show wpAnyH _ _ _ _ _ _ _ (Act.put _ (some 184) _) _
              simp only [Act.put, List.setIfInBounds_toArray, List.set_cons_zero, List.set_cons_succ]
              refine wpAnyH_take (i := 16) (v := .bool false) rfl (by kernel_rfl) (by kernel_rfl) (by kernel_rfl) (fun _ _ _ h => h) (Or.inl ⟨by rfl, by intro w' h; go_simp⟩) hHeld ?_
              show wpAnyH _ _ _ _ _ _ _ (Act.put _ (some 185) _) _
              simp only [Act.put, List.setIfInBounds_toArray, List.set_cons_zero, List.set_cons_succ]
              refine wpAnyH_take (i := 17) (v := .bool false) rfl (by kernel_rfl) (by kernel_rfl) (by kernel_rfl) (fun _ _ _ h => h) (Or.inl ⟨by rfl, by intro w hSw; first | rfl | go_simp⟩) hHeld ?_
              show wpAnyH _ _ _ _ _ _ _ (Act.put _ (some 186) _) _
              simp only [Act.put, List.setIfInBounds_toArray, List.set_cons_zero, List.set_cons_succ]
              refine wpAnyH_done (by kernel_rfl) ?_ _
              clear hHeld
              go_wp2
              go_roundw
              case rel => exact ⟨n + 1, tk, by have := HLT.out; omega, by rw [show ((n + 1 : Nat) : Int) = x + 1 by have := HXN.out; omega], TX3, SX3, DX3, BX3, RX3, AX3, OX3⟩
              case measure => simp [intOf]; omega
          · have hm : (kd : Int).tmod 3 = 1 := by rw [hmd, h3]; rfl
            clear hmd h3
            by_cases hin : kn < pw tall
            · have hini : (kn : Int) < ((pw tall : Nat) : Int) := by omega
              have hkl : kn < tk.length := by omega
              by_cases htk : tk.getD kn false = true
              · skip
                have ck := (Bwr.out.cell (p := ⟨gK, oK + x.toNat, none⟩) hgK).trans hkc
                have hrg := Rwr.out.blk.lt
                go_upto_region 14 with fail
                go_upto_region 15 with fail
                go_upto_region 16 with fail
                go_upto_region 17 with fail
                clear ck
                have hB : Below wr.heap.size wr (wr.alloc (.cells Tryd.zeroCells94 94)) := (Below.refl _ _).alloc (Nat.le_refl _) _
                have hkz : gk < wr.heap.size := Twr.out.lt
                have SU1 : Hid (Blk (wr.alloc (.cells Tryd.zeroCells94 94)) w.heap.size 29 (w8 seed)) := Lib.hid (Swr.out.below hB Swr.out.lt)
                have DU1 : Hid (Blk (wr.alloc (.cells Tryd.zeroCells94 94)) (w.heap.size + 1) 29 (w8 d)) := Lib.hid (Dwr.out.below hB Dwr.out.lt)
                have BU1 : Hid (Below w.heap.size w (wr.alloc (.cells Tryd.zeroCells94 94))) := Lib.hid (Bwr.out.trans (hB.mono Bwr.out.size))
                have RU1 : Hid (RingAt (wr.alloc (.cells Tryd.zeroCells94 94)) w.heap.size g seed tall tk v) := Lib.hid (Rwr.out.below hB)
                have AU1 : Hid (Blk (wr.alloc (.cells Tryd.zeroCells94 94)) ga 40 [.string firstText, .string roundText]) := Lib.hid (Awr.out.below hB Awr.out.lt)
                have OU1 : Hid (OutAt (wr.alloc (.cells Tryd.zeroCells94 94)) w.heap.size (.slice (some ⟨go, 0, none⟩) (tall + 1) co) seed tall (tall + 1)) := Lib.hid (Owr.out.below hB)
                have TU1 : Hid (Blk (wr.alloc (.cells Tryd.zeroCells94 94)) gk 4 (tkc tk (pw tall))) := Lib.hid (Twr.out.below hB Twr.out.lt)
                have ZU1 : Hid (Blk (wr.alloc (.cells Tryd.zeroCells94 94)) wr.heap.size 94 zsig) := Lib.hid (by
                  have h := Blk.new wr 94 zsig
                  rw [zsig_arr] at h
                  exact h)
                clear hB Swr Dwr Bwr Rwr Awr Owr Twr
                generalize (wr.alloc (.cells Tryd.zeroCells94 94)) = U1 at SU1 DU1 BU1 RU1 AU1 OU1 TU1 ZU1 ⊢
                generalize wr.heap.size = gz at hkz hrg ZU1 ⊢
                have HRD := Lib.hid DU1.out.all
                have cb := (BU1.out.cell (p := ⟨gB, oB + x.toNat, none⟩) hgB).trans hbc
                go_wp2_with (first | (refine wpList_load_mid rfl 29 (.tmp 9) rfl (w.heap.size + 1) 0 rfl (w8 d) _ HRD.out Tryd.underlying29 rfl HID.out ?_))
                refine (again_ok g kn seed d tall w.heap.size tk v U1 RU1 (Lib.hid (HT.out.below BU1.out HT.out.lt)) HDL HDP hin htk).mono ?_
                rintro e U2 ⟨gw, rfl, hY, hgw, hB⟩
                have hgz : gz < gw := Nat.lt_of_lt_of_le ZU1.out.lt hgw
                have SU2 : Hid (Blk U2 w.heap.size 29 (w8 seed)) := Lib.hid (SU1.out.below hB SU1.out.lt)
                have DU2 : Hid (Blk U2 (w.heap.size + 1) 29 (w8 d)) := Lib.hid (DU1.out.below hB DU1.out.lt)
                have BU2 : Hid (Below w.heap.size w U2) := Lib.hid (BU1.out.trans (hB.mono BU1.out.size))
                have RU2 : Hid (RingAt U2 w.heap.size g seed tall tk v) := Lib.hid (RU1.out.below hB)
                have AU2 : Hid (Blk U2 ga 40 [.string firstText, .string roundText]) := Lib.hid (AU1.out.below hB AU1.out.lt)
                have OU2 : Hid (OutAt U2 w.heap.size (.slice (some ⟨go, 0, none⟩) (tall + 1) co) seed tall (tall + 1)) := Lib.hid (OU1.out.below hB)
                have TU2 : Hid (Blk U2 gk 4 (tkc tk (pw tall))) := Lib.hid (TU1.out.below hB TU1.out.lt)
                have ZU2 : Hid (Blk U2 gz 94 zsig) := Lib.hid (ZU1.out.below hB ZU1.out.lt)
                clear SU1 DU1 BU1 RU1 AU1 OU1 TU1 ZU1
                have YU2 : Hid (Blk U2 gw 36 (w8 (rows (wayN seed kn) tall))) := Lib.hid (hY)
                clear hB hY hgw HRD cb
                have HSE := Lib.hid (sig_put (signN seed kn d) kn (some ⟨gw, 0, none⟩) tall tall (signN_length _ _ _))
                have HZE : Hid (zsig.toArray.size = (rsg (signN seed kn d) kn (.slice (some ⟨gw, 0, none⟩) tall tall)).toArray.size) := Lib.hid (by rw [zsig_arr]; exact HSE.out.2.1)
                have ct : U2.cell? ⟨gk, kn, none⟩ = some (.bool true) := by rw [TU2.out.cell, tkc_get _ _ _ hin hlen, htk]
                go_upto_region 27 with (first | (refine wpList_store_row rfl 94 (.tmp 19) (.tmp 131) rfl gz (rsg (signN seed kn d) kn (.slice (some ⟨gw, 0, none⟩) tall tall)).toArray rfl rfl 94 _ ZU2.out HSE.out.1 HZE.out HSE.out.2.2 ?_))
                have hO : U2.grownBy (U2.setRow gz (rsg (signN seed kn d) kn (.slice (some ⟨gw, 0, none⟩) tall tall)).toArray) (some gz) := only_setRow (only_refl _ _) _
                have hbk := ZU2.out
                have SU3 : Hid (Blk (U2.setRow gz (rsg (signN seed kn d) kn (.slice (some ⟨gw, 0, none⟩) tall tall)).toArray) w.heap.size 29 (w8 seed)) := Lib.hid (SU2.out.grown hO (fun e => by injection e with e; omega))
                have DU3 : Hid (Blk (U2.setRow gz (rsg (signN seed kn d) kn (.slice (some ⟨gw, 0, none⟩) tall tall)).toArray) (w.heap.size + 1) 29 (w8 d)) := Lib.hid (DU2.out.grown hO (fun e => by injection e with e; omega))
                have BU3 : Hid (Below w.heap.size w (U2.setRow gz (rsg (signN seed kn d) kn (.slice (some ⟨gw, 0, none⟩) tall tall)).toArray)) := Lib.hid (BU2.out.trans (only_up hO (by omega) BU2.out.size))
                have RU3 : Hid (RingAt (U2.setRow gz (rsg (signN seed kn d) kn (.slice (some ⟨gw, 0, none⟩) tall tall)).toArray) w.heap.size g seed tall tk v) := Lib.hid (RU2.out.other hO hbk (by decide) (by decide) (by decide))
                have AU3 : Hid (Blk (U2.setRow gz (rsg (signN seed kn d) kn (.slice (some ⟨gw, 0, none⟩) tall tall)).toArray) ga 40 [.string firstText, .string roundText]) := Lib.hid (AU2.out.grown hO (fun e => by injection e with e; omega))
                have OU3 : Hid (OutAt (U2.setRow gz (rsg (signN seed kn d) kn (.slice (some ⟨gw, 0, none⟩) tall tall)).toArray) w.heap.size (.slice (some ⟨go, 0, none⟩) (tall + 1) co) seed tall (tall + 1)) := Lib.hid (OU2.out.far hO hbk (by decide) (by decide))
                have TU3 : Hid (Blk (U2.setRow gz (rsg (signN seed kn d) kn (.slice (some ⟨gw, 0, none⟩) tall tall)).toArray) gk 4 (tkc tk (pw tall))) := Lib.hid (TU2.out.grown hO (fun e => by injection e with e; omega))
                have YU3 : Hid (Blk (U2.setRow gz (rsg (signN seed kn d) kn (.slice (some ⟨gw, 0, none⟩) tall tall)).toArray) gw 36 (w8 (rows (wayN seed kn) tall))) := Lib.hid (YU2.out.grown hO (fun e => by injection e with e; omega))
                have ZU3 : Hid (Blk (U2.setRow gz (rsg (signN seed kn d) kn (.slice (some ⟨gw, 0, none⟩) tall tall)).toArray) gz 94 (rsg (signN seed kn d) kn (.slice (some ⟨gw, 0, none⟩) tall tall))) := Lib.hid (ZU2.out.setRow _)
                clear hO hbk ct SU2 DU2 BU2 RU2 AU2 OU2 TU2 ZU2 YU2
                generalize (U2.setRow gz (rsg (signN seed kn d) kn (.slice (some ⟨gw, 0, none⟩) tall tall)).toArray) = U3 at SU3 DU3 BU3 RU3 AU3 OU3 TU3 ZU3 YU3 ⊢
                have ct : U3.cell? ⟨gk, kn, none⟩ = some (.bool true) := by rw [TU3.out.cell, tkc_get _ _ _ hin hlen, htk]
                have et : U3.frozen? ⟨gk, kn, none⟩ = false := TU3.out.frozen _
                go_upto_region 35 with fail
                have hO : U3.grownBy (U3.setCell ⟨gk, kn, none⟩ (.bool true)) (some gk) := only_setCell (only_refl _ _) (.inl rfl) _
                have hbk := TU3.out
                have SU4 : Hid (Blk (U3.setCell ⟨gk, kn, none⟩ (.bool true)) w.heap.size 29 (w8 seed)) := Lib.hid (SU3.out.grown hO (fun e => by injection e with e; omega))
                have DU4 : Hid (Blk (U3.setCell ⟨gk, kn, none⟩ (.bool true)) (w.heap.size + 1) 29 (w8 d)) := Lib.hid (DU3.out.grown hO (fun e => by injection e with e; omega))
                have BU4 : Hid (Below w.heap.size w (U3.setCell ⟨gk, kn, none⟩ (.bool true))) := Lib.hid (BU3.out.trans (only_up hO (by omega) BU3.out.size))
                have RU4 : Hid (RingAt (U3.setCell ⟨gk, kn, none⟩ (.bool true)) w.heap.size g seed tall tk v) := Lib.hid (RU3.out.other hO hbk (by decide) (by decide) (by decide))
                have AU4 : Hid (Blk (U3.setCell ⟨gk, kn, none⟩ (.bool true)) ga 40 [.string firstText, .string roundText]) := Lib.hid (AU3.out.grown hO (fun e => by injection e with e; omega))
                have OU4 : Hid (OutAt (U3.setCell ⟨gk, kn, none⟩ (.bool true)) w.heap.size (.slice (some ⟨go, 0, none⟩) (tall + 1) co) seed tall (tall + 1)) := Lib.hid (OU3.out.far hO hbk (by decide) (by decide))
                have ZU4 : Hid (Blk (U3.setCell ⟨gk, kn, none⟩ (.bool true)) gz 94 (rsg (signN seed kn d) kn (.slice (some ⟨gw, 0, none⟩) tall tall))) := Lib.hid (ZU3.out.grown hO (fun e => by injection e with e; omega))
                have YU4 : Hid (Blk (U3.setCell ⟨gk, kn, none⟩ (.bool true)) gw 36 (w8 (rows (wayN seed kn) tall))) := Lib.hid (YU3.out.grown hO (fun e => by injection e with e; omega))
                have TU4 : Hid (Blk (U3.setCell ⟨gk, kn, none⟩ (.bool true)) gk 4 (tkc (tk.set kn true) (pw tall))) := Lib.hid (by
                  have h := TU3.out.set_ kn (.bool true)
                  rw [tkc_set] at h
                  exact h)
                clear hO hbk ct et SU3 DU3 BU3 RU3 AU3 OU3 TU3 ZU3 YU3
                generalize (U3.setCell ⟨gk, kn, none⟩ (.bool true)) = U4 at SU4 DU4 BU4 RU4 AU4 OU4 TU4 ZU4 YU4 ⊢
                have RSU4 : Hid (RingAt U4 w.heap.size g seed tall (tk.set kn true) v) := Lib.hid (by rw [set_same tk kn hkl htk]; exact RU4.out)
                clear RU4
                have RU4 := RSU4
                clear RSU4
                have HL := Lib.hid (heap_alloc_last U4 (.cells Tryd.zeroCells99 99))
                go_upto_region 36 with (first | (refine wpList_store_row rfl 99 (.tmp 22) (.tmp 151) rfl U4.heap.size zsig.toArray rfl (congrArg Value.agg zsig_arr9.symm) 99 _ HL.out HS9.out HZ9.out HO9.out ?_; rw [World.setRow_alloc_new]))
                have hB : Below U4.heap.size U4 (U4.alloc (.cells zsig.toArray 99)) := (Below.refl _ _).alloc (Nat.le_refl _) _
                have SU5 : Hid (Blk (U4.alloc (.cells zsig.toArray 99)) w.heap.size 29 (w8 seed)) := Lib.hid (SU4.out.below hB SU4.out.lt)
                have DU5 : Hid (Blk (U4.alloc (.cells zsig.toArray 99)) (w.heap.size + 1) 29 (w8 d)) := Lib.hid (DU4.out.below hB DU4.out.lt)
                have BU5 : Hid (Below w.heap.size w (U4.alloc (.cells zsig.toArray 99))) := Lib.hid (BU4.out.trans (hB.mono BU4.out.size))
                have RU5 : Hid (RingAt (U4.alloc (.cells zsig.toArray 99)) w.heap.size g seed tall (tk.set kn true) v) := Lib.hid (RU4.out.below hB)
                have AU5 : Hid (Blk (U4.alloc (.cells zsig.toArray 99)) ga 40 [.string firstText, .string roundText]) := Lib.hid (AU4.out.below hB AU4.out.lt)
                have OU5 : Hid (OutAt (U4.alloc (.cells zsig.toArray 99)) w.heap.size (.slice (some ⟨go, 0, none⟩) (tall + 1) co) seed tall (tall + 1)) := Lib.hid (OU4.out.below hB)
                have TU5 : Hid (Blk (U4.alloc (.cells zsig.toArray 99)) gk 4 (tkc (tk.set kn true) (pw tall))) := Lib.hid (TU4.out.below hB TU4.out.lt)
                have ZU5 : Hid (Blk (U4.alloc (.cells zsig.toArray 99)) gz 94 (rsg (signN seed kn d) kn (.slice (some ⟨gw, 0, none⟩) tall tall))) := Lib.hid (ZU4.out.below hB ZU4.out.lt)
                have YU5 : Hid (Blk (U4.alloc (.cells zsig.toArray 99)) gw 36 (w8 (rows (wayN seed kn) tall))) := Lib.hid (YU4.out.below hB YU4.out.lt)
                have KU5 : Hid (Blk (U4.alloc (.cells zsig.toArray 99)) U4.heap.size 99 zsig) := Lib.hid (Blk.new _ _ _)
                have HGX : Hid (gw < U4.heap.size) := Lib.hid YU4.out.lt
                have HKX : Hid (gz < U4.heap.size) := Lib.hid ZU4.out.lt
                clear hB HL SU4 DU4 BU4 RU4 AU4 OU4 TU4 ZU4 YU4
                generalize (U4.alloc (.cells zsig.toArray 99)) = U5 at SU5 DU5 BU5 RU5 AU5 OU5 TU5 ZU5 YU5 KU5 ⊢
                generalize U4.heap.size = gx at KU5 HKX HGX ⊢
                have hzx := HKX.out
                have cb := (BU5.out.cell (p := ⟨gB, oB + x.toNat, none⟩) hgB).trans hbc
                have HRD := Lib.hid DU5.out.all
                have HRS := Lib.hid SU5.out.all
                have HRA := Lib.hid AU5.out.all
                obtain ⟨XU, hXU⟩ : ∃ q, U5.heap.size = q := ⟨_, rfl⟩
                have hxXU : gx < XU := by rw [← hXU]; exact KU5.out.lt
                go_wp2_with (first | (refine wpList_load_mid rfl 29 (.tmp 9) rfl (w.heap.size + 1) 0 rfl (w8 d) _ HRD.out Tryd.underlying29 rfl HID.out ?_) | (refine wpList_load_mid rfl 29 (.tmp 5) rfl w.heap.size 0 rfl (w8 seed) _ HRS.out Tryd.underlying29 rfl HIS.out ?_) | (refine wpList_load_mid rfl 40 (.tmp 13) rfl ga 0 rfl [.string firstText, .string roundText] _ HRA.out Tryd.underlying40 rfl info40 ?_))
                refine (refsign_any firstText roundText seed d tall kn go co U5 (Lib.hid texts) HL HP HDL HDP (Lib.hid OU5.out.rowsR) hin (by omega)).mono ?_
                rintro e U6 ⟨u, rfl, hU, hB⟩
                rw [hXU] at hU
                have SU6 : Hid (Blk U6 w.heap.size 29 (w8 seed)) := Lib.hid (SU5.out.below hB SU5.out.lt)
                have DU6 : Hid (Blk U6 (w.heap.size + 1) 29 (w8 d)) := Lib.hid (DU5.out.below hB DU5.out.lt)
                have BU6 : Hid (Below w.heap.size w U6) := Lib.hid (BU5.out.trans (hB.mono BU5.out.size))
                have RU6 : Hid (RingAt U6 w.heap.size g seed tall (tk.set kn true) v) := Lib.hid (RU5.out.below hB)
                have AU6 : Hid (Blk U6 ga 40 [.string firstText, .string roundText]) := Lib.hid (AU5.out.below hB AU5.out.lt)
                have OU6 : Hid (OutAt U6 w.heap.size (.slice (some ⟨go, 0, none⟩) (tall + 1) co) seed tall (tall + 1)) := Lib.hid (OU5.out.below hB)
                have TU6 : Hid (Blk U6 gk 4 (tkc (tk.set kn true) (pw tall))) := Lib.hid (TU5.out.below hB TU5.out.lt)
                have ZU6 : Hid (Blk U6 gz 94 (rsg (signN seed kn d) kn (.slice (some ⟨gw, 0, none⟩) tall tall))) := Lib.hid (ZU5.out.below hB ZU5.out.lt)
                have YU6 : Hid (Blk U6 gw 36 (w8 (rows (wayN seed kn) tall))) := Lib.hid (YU5.out.below hB YU5.out.lt)
                have KU6 : Hid (Blk U6 gx 99 zsig) := Lib.hid (KU5.out.below hB KU5.out.lt)
                clear SU5 DU5 BU5 RU5 AU5 OU5 TU5 ZU5 YU5 KU5
                have UU6 : Hid (U6.ownsRow XU 29 32 u tall (w8 (rows (wayN seed kn) tall))) := Lib.hid (hU)
                clear hB hU HRD HRS HRA cb hXU
                have HSX := Lib.hid (sig_put9 (signN seed kn d) kn u (signN_length _ _ _) (wayR_own (wayN_length seed kn) UU6.out).one)
                go_upto_region 38 with (first | (refine wpList_store_row rfl 99 (.tmp 22) (.tmp 168) rfl gx (rsg (signN seed kn d) kn u).toArray rfl rfl 99 _ KU6.out HSX.out.1 HSX.out.2.1 HSX.out.2.2 ?_))
                have hO : U6.grownBy (U6.setRow gx (rsg (signN seed kn d) kn u).toArray) (some gx) := only_setRow (only_refl _ _) _
                have hbk := KU6.out
                have hgx : gw < gx := by have := HGX.out; omega
                have SU7 : Hid (Blk (U6.setRow gx (rsg (signN seed kn d) kn u).toArray) w.heap.size 29 (w8 seed)) := Lib.hid (SU6.out.grown hO (fun e => by injection e with e; omega))
                have DU7 : Hid (Blk (U6.setRow gx (rsg (signN seed kn d) kn u).toArray) (w.heap.size + 1) 29 (w8 d)) := Lib.hid (DU6.out.grown hO (fun e => by injection e with e; omega))
                have BU7 : Hid (Below w.heap.size w (U6.setRow gx (rsg (signN seed kn d) kn u).toArray)) := Lib.hid (BU6.out.trans (only_up hO (by omega) BU6.out.size))
                have RU7 : Hid (RingAt (U6.setRow gx (rsg (signN seed kn d) kn u).toArray) w.heap.size g seed tall (tk.set kn true) v) := Lib.hid (RU6.out.other hO hbk (by decide) (by decide) (by decide))
                have AU7 : Hid (Blk (U6.setRow gx (rsg (signN seed kn d) kn u).toArray) ga 40 [.string firstText, .string roundText]) := Lib.hid (AU6.out.grown hO (fun e => by injection e with e; omega))
                have OU7 : Hid (OutAt (U6.setRow gx (rsg (signN seed kn d) kn u).toArray) w.heap.size (.slice (some ⟨go, 0, none⟩) (tall + 1) co) seed tall (tall + 1)) := Lib.hid (OU6.out.far hO hbk (by decide) (by decide))
                have TU7 : Hid (Blk (U6.setRow gx (rsg (signN seed kn d) kn u).toArray) gk 4 (tkc (tk.set kn true) (pw tall))) := Lib.hid (TU6.out.grown hO (fun e => by injection e with e; omega))
                have ZU7 : Hid (Blk (U6.setRow gx (rsg (signN seed kn d) kn u).toArray) gz 94 (rsg (signN seed kn d) kn (.slice (some ⟨gw, 0, none⟩) tall tall))) := Lib.hid (ZU6.out.grown hO (fun e => by injection e with e; omega))
                have YU7 : Hid (Blk (U6.setRow gx (rsg (signN seed kn d) kn u).toArray) gw 36 (w8 (rows (wayN seed kn) tall))) := Lib.hid (YU6.out.grown hO (fun e => by injection e with e; omega))
                have UU7 : Hid ((U6.setRow gx (rsg (signN seed kn d) kn u).toArray).ownsRow XU 29 32 u tall (w8 (rows (wayN seed kn) tall))) := Lib.hid (own_far UU6.out hO (fun e => by have h5 := (UU6.out.lt _ e).1; omega))
                have KU7 : Hid (Blk (U6.setRow gx (rsg (signN seed kn d) kn u).toArray) gx 99 (rsg (signN seed kn d) kn u)) := Lib.hid (KU6.out.setRow _)
                clear hO hbk SU6 DU6 BU6 RU6 AU6 OU6 TU6 ZU6 YU6 KU6 UU6
                generalize (U6.setRow gx (rsg (signN seed kn d) kn u).toArray) = U7 at SU7 DU7 BU7 RU7 AU7 OU7 TU7 ZU7 YU7 KU7 UU7 ⊢
                have hBz : Below U7.heap.size U7 U7.drew := below_drewN (Below.refl _ _) 1
                have SX0 : Hid (Blk U7.drew w.heap.size 29 (w8 seed)) := Lib.hid (SU7.out.below hBz SU7.out.lt)
                have DX0 : Hid (Blk U7.drew (w.heap.size + 1) 29 (w8 d)) := Lib.hid (DU7.out.below hBz DU7.out.lt)
                have BX0 : Hid (Below w.heap.size w U7.drew) := Lib.hid (BU7.out.trans (hBz.mono BU7.out.size))
                have RX0 : Hid (RingAt U7.drew w.heap.size g seed tall (tk.set kn true) v) := Lib.hid (RU7.out.below hBz)
                have AX0 : Hid (Blk U7.drew ga 40 [.string firstText, .string roundText]) := Lib.hid (AU7.out.below hBz AU7.out.lt)
                have OX0 : Hid (OutAt U7.drew w.heap.size (.slice (some ⟨go, 0, none⟩) (tall + 1) co) seed tall (tall + 1)) := Lib.hid (OU7.out.below hBz)
                have TX0 : Hid (Blk U7.drew gk 4 (tkc (tk.set kn true) (pw tall))) := Lib.hid (TU7.out.below hBz TU7.out.lt)
                have ZX0 : Hid (Blk U7.drew gz 94 (rsg (signN seed kn d) kn (.slice (some ⟨gw, 0, none⟩) tall tall))) := Lib.hid (ZU7.out.below hBz ZU7.out.lt)
                have YX0 : Hid (Blk U7.drew gw 36 (w8 (rows (wayN seed kn) tall))) := Lib.hid (YU7.out.below hBz YU7.out.lt)
                have KX0 : Hid (Blk U7.drew gx 99 (rsg (signN seed kn d) kn u)) := Lib.hid (KU7.out.below hBz KU7.out.lt)
                have UX0 : Hid (U7.drew.ownsRow XU 29 32 u tall (w8 (rows (wayN seed kn) tall))) := Lib.hid (own_keepB UU7.out hBz)
                clear hBz
                refine wp_region_held_drew (S := fun w' => Blk w' gz 94 (rsg (signN seed kn d) kn (.slice (some ⟨gw, 0, none⟩) tall tall)) ∧ Blk w' gx 99 (rsg (signN seed kn d) kn u) ∧ Blk w' gk 4 (tkc (tk.set kn true) (pw tall))) (by kernel_rfl) (⟨ZX0.out, KX0.out, TX0.out⟩) (fun hHeld => ?_)
                generalize U7.drew = X0 at hHeld SX0 DX0 BX0 RX0 AX0 OX0 TX0 ZX0 YX0 KX0 UX0 ⊢
                refine wpAnyH_take (i := 0) (v := .agg (rsg (signN seed kn d) kn (.slice (some ⟨gw, 0, none⟩) tall tall)).toArray) rfl (by kernel_rfl) (by kernel_rfl) (by kernel_rfl) (fun _ _ _ h => h) (yieldsIf_load_mid rfl 94 (.tmp 19) rfl gz 0 rfl (rsg (signN seed kn d) kn (.slice (some ⟨gw, 0, none⟩) tall tall)) _ (fun w' h => Blk.all h.1) Tryd.underlying94 rfl (by rw [rsg_length _ _ _ (signN_length _ _ _)]; exact info94)) hHeld ?_
                show wpAnyH _ _ _ _ _ _ _ (Act.put _ (some 169) _) _
                simp only [Act.put, List.setIfInBounds_toArray, List.set_cons_zero, List.set_cons_succ]
                refine wpAnyH_take (i := 2) (v := .agg (rsg (signN seed kn d) kn u).toArray) rfl (by kernel_rfl) (by kernel_rfl) (by kernel_rfl) (fun _ _ _ h => h) (yieldsIf_load_mid rfl 99 (.tmp 22) rfl gx 0 rfl (rsg (signN seed kn d) kn u) _ (fun w' h => Blk.all h.2.1) Tryd.underlying99 rfl (by rw [rsg_length _ _ _ (signN_length _ _ _)]; exact info99)) hHeld ?_
                show wpAnyH _ _ _ _ _ _ _ (Act.put _ (some 171) _) _
                simp only [Act.put, List.setIfInBounds_toArray, List.set_cons_zero, List.set_cons_succ]
                refine wpAnyH_ready (rs := [1]) (by kernel_rfl) (by simp) ?_
                refine AllReadyH.cons rfl (fun K hK => ?_) AllReadyH.nil
                refine step_call rfl 53 #[.tmp 169] #[94] rfl #[.agg (rsg (signN seed kn d) kn (.slice (some ⟨gw, 0, none⟩) tall tall)).toArray] (by simp [Act.eval]) (by go_simp) (rfrom5_any (signN seed kn d) kn tall (some ⟨gw, 0, none⟩) tall (wayN seed kn) X0 (Lib.hid (signN_length _ _ _)) (Lib.hid (wayN_length seed kn)) (Lib.hid (WayR.blk (wayN seed kn) (wayN_length seed kn) YX0.out)) (by omega)) ?_
                rintro e X1 ⟨vf, rfl, hwf, hB⟩
                have SX1 : Hid (Blk X1 w.heap.size 29 (w8 seed)) := Lib.hid (SX0.out.below hB SX0.out.lt)
                have DX1 : Hid (Blk X1 (w.heap.size + 1) 29 (w8 d)) := Lib.hid (DX0.out.below hB DX0.out.lt)
                have BX1 : Hid (Below w.heap.size w X1) := Lib.hid (BX0.out.trans (hB.mono BX0.out.size))
                have RX1 : Hid (RingAt X1 w.heap.size g seed tall (tk.set kn true) v) := Lib.hid (RX0.out.below hB)
                have AX1 : Hid (Blk X1 ga 40 [.string firstText, .string roundText]) := Lib.hid (AX0.out.below hB AX0.out.lt)
                have OX1 : Hid (OutAt X1 w.heap.size (.slice (some ⟨go, 0, none⟩) (tall + 1) co) seed tall (tall + 1)) := Lib.hid (OX0.out.below hB)
                have TX1 : Hid (Blk X1 gk 4 (tkc (tk.set kn true) (pw tall))) := Lib.hid (TX0.out.below hB TX0.out.lt)
                have ZX1 : Hid (Blk X1 gz 94 (rsg (signN seed kn d) kn (.slice (some ⟨gw, 0, none⟩) tall tall))) := Lib.hid (ZX0.out.below hB ZX0.out.lt)
                have YX1 : Hid (Blk X1 gw 36 (w8 (rows (wayN seed kn) tall))) := Lib.hid (YX0.out.below hB YX0.out.lt)
                have KX1 : Hid (Blk X1 gx 99 (rsg (signN seed kn d) kn u)) := Lib.hid (KX0.out.below hB KX0.out.lt)
                have UX1 : Hid (X1.ownsRow XU 29 32 u tall (w8 (rows (wayN seed kn) tall))) := Lib.hid (own_keepB UX0.out hB)
                have NX1 : Hid (WayR X1 vf (wayN seed kn) tall) := Lib.hid (hwf)
                clear SX0 DX0 BX0 RX0 AX0 OX0 TX0 ZX0 YX0 KX0 UX0 hB hwf
                refine ⟨_, rfl, hK.out _ _ (⟨ZX1.out, KX1.out, TX1.out⟩) (fun hHeld => ?_)⟩
                clear hK K
                show wpAnyH _ _ _ _ _ _ _ (Act.put _ (some 170) _) _
                simp only [Act.put, List.setIfInBounds_toArray, List.set_cons_zero, List.set_cons_succ]
                refine wpAnyH_ready (rs := [3]) (by kernel_rfl) (by simp) ?_
                refine AllReadyH.cons rfl (fun K hK => ?_) AllReadyH.nil
                refine step_call rfl 52 #[.tmp 170, .tmp 171] #[99, 99] rfl #[.agg (rsg (signN seed kn d) kn vf).toArray, .agg (rsg (signN seed kn d) kn u).toArray] (by simp [Act.eval]) (by go_simp) (same_eq (signN seed kn d) kn tall vf u (wayN seed kn) X1 (Lib.hid (signN_length _ _ _)) (Lib.hid (wayN_length seed kn)) NX1 (Lib.hid (wayR_own (wayN_length seed kn) UX1.out)) (by omega)) ?_
                rintro e X2 ⟨rfl, hB⟩
                have SX2 : Hid (Blk X2 w.heap.size 29 (w8 seed)) := Lib.hid (SX1.out.below hB SX1.out.lt)
                have DX2 : Hid (Blk X2 (w.heap.size + 1) 29 (w8 d)) := Lib.hid (DX1.out.below hB DX1.out.lt)
                have BX2 : Hid (Below w.heap.size w X2) := Lib.hid (BX1.out.trans (hB.mono BX1.out.size))
                have RX2 : Hid (RingAt X2 w.heap.size g seed tall (tk.set kn true) v) := Lib.hid (RX1.out.below hB)
                have AX2 : Hid (Blk X2 ga 40 [.string firstText, .string roundText]) := Lib.hid (AX1.out.below hB AX1.out.lt)
                have OX2 : Hid (OutAt X2 w.heap.size (.slice (some ⟨go, 0, none⟩) (tall + 1) co) seed tall (tall + 1)) := Lib.hid (OX1.out.below hB)
                have TX2 : Hid (Blk X2 gk 4 (tkc (tk.set kn true) (pw tall))) := Lib.hid (TX1.out.below hB TX1.out.lt)
                have ZX2 : Hid (Blk X2 gz 94 (rsg (signN seed kn d) kn (.slice (some ⟨gw, 0, none⟩) tall tall))) := Lib.hid (ZX1.out.below hB ZX1.out.lt)
                have YX2 : Hid (Blk X2 gw 36 (w8 (rows (wayN seed kn) tall))) := Lib.hid (YX1.out.below hB YX1.out.lt)
                have KX2 : Hid (Blk X2 gx 99 (rsg (signN seed kn d) kn u)) := Lib.hid (KX1.out.below hB KX1.out.lt)
                have UX2 : Hid (X2.ownsRow XU 29 32 u tall (w8 (rows (wayN seed kn) tall))) := Lib.hid (own_keepB UX1.out hB)
                have NX2 : Hid (WayR X2 vf (wayN seed kn) tall) := Lib.hid (NX1.out.below hB)
                clear SX1 DX1 BX1 RX1 AX1 OX1 TX1 ZX1 YX1 KX1 UX1 NX1 hB
                refine ⟨_, rfl, hK.out _ _ (⟨ZX2.out, KX2.out, TX2.out⟩) (fun hHeld => ?_)⟩
                clear hK K
                show wpAnyH _ _ _ _ _ _ _ (Act.put _ (some 172) _) _
                simp only [Act.put, List.setIfInBounds_toArray, List.set_cons_zero, List.set_cons_succ]
                refine wpAnyH_take (i := 4) (v := .bool false) rfl (by kernel_rfl) (by kernel_rfl) (by kernel_rfl) (fun _ _ _ h => h) (Or.inl ⟨by rfl, by intro w' h; go_simp⟩) hHeld ?_
                show wpAnyH _ _ _ _ _ _ _ (Act.put _ (some 173) _) _
                simp only [Act.put, List.setIfInBounds_toArray, List.set_cons_zero, List.set_cons_succ]
                refine wpAnyH_take (i := 5) (v := .bool false) rfl (by kernel_rfl) (by kernel_rfl) (by kernel_rfl) (fun _ _ _ h => h) (Or.inl ⟨by rfl, fun w _ => by rfl⟩) hHeld ?_
                show wpAnyH _ _ _ _ _ _ _ (Act.put _ (some 174) _) _
                simp only [Act.put, List.setIfInBounds_toArray, List.set_cons_zero, List.set_cons_succ]
                refine wpAnyH_take (i := 6) (v := .pointer (some ⟨g, 0, none⟩)) rfl (by kernel_rfl) (by kernel_rfl) (by kernel_rfl) (fun _ _ _ h => h) (Or.inl ⟨by rfl, fun w _ => by rfl⟩) hHeld ?_
                show wpAnyH _ _ _ _ _ _ _ (Act.put _ (some 175) _) _
                simp only [Act.put, List.setIfInBounds_toArray, List.set_cons_zero, List.set_cons_succ]
                refine wpAnyH_take (i := 7) (v := .int .u32 (kn : Int)) rfl (by kernel_rfl) (by kernel_rfl) (by kernel_rfl) (fun _ _ _ h => h) (Or.inl ⟨by rfl, fun w _ => by rfl⟩) hHeld ?_
                show wpAnyH _ _ _ _ _ _ _ (Act.put _ (some 176) _) _
                simp only [Act.put, List.setIfInBounds_toArray, List.set_cons_zero, List.set_cons_succ]
                refine wpAnyH_take (i := 9) (v := .bool true) rfl (by kernel_rfl) (by kernel_rfl) (by kernel_rfl) (fun _ _ _ h => h) (Or.inl ⟨by rfl, fun w _ => by rfl⟩) hHeld ?_
                show wpAnyH _ _ _ _ _ _ _ (Act.put _ (some 178) _) _
                simp only [Act.put, List.setIfInBounds_toArray, List.set_cons_zero, List.set_cons_succ]
                refine wpAnyH_ready (rs := [8]) (by kernel_rfl) (by simp) ?_
                refine AllReadyH.cons rfl (fun K hK => ?_) AllReadyH.nil
                have hcT := taken_any g kn seed tall w.heap.size (tk.set kn true) v X2 RX2 HK32.out
                rw [decide_eq_true hin, set_got tk kn hkl, Bool.true_and] at hcT
                refine step_call rfl 54 #[.tmp 175, .tmp 176] #[84, 38] rfl #[.pointer (some ⟨g, 0, none⟩), .int .u32 (kn : Int)] (by simp [Act.eval]) (by go_simp) (hcT) ?_
                rintro e X3 ⟨rfl, hB⟩
                have SX3 : Hid (Blk X3 w.heap.size 29 (w8 seed)) := Lib.hid (SX2.out.below hB SX2.out.lt)
                have DX3 : Hid (Blk X3 (w.heap.size + 1) 29 (w8 d)) := Lib.hid (DX2.out.below hB DX2.out.lt)
                have BX3 : Hid (Below w.heap.size w X3) := Lib.hid (BX2.out.trans (hB.mono BX2.out.size))
                have RX3 : Hid (RingAt X3 w.heap.size g seed tall (tk.set kn true) v) := Lib.hid (RX2.out.below hB)
                have AX3 : Hid (Blk X3 ga 40 [.string firstText, .string roundText]) := Lib.hid (AX2.out.below hB AX2.out.lt)
                have OX3 : Hid (OutAt X3 w.heap.size (.slice (some ⟨go, 0, none⟩) (tall + 1) co) seed tall (tall + 1)) := Lib.hid (OX2.out.below hB)
                have TX3 : Hid (Blk X3 gk 4 (tkc (tk.set kn true) (pw tall))) := Lib.hid (TX2.out.below hB TX2.out.lt)
                have ZX3 : Hid (Blk X3 gz 94 (rsg (signN seed kn d) kn (.slice (some ⟨gw, 0, none⟩) tall tall))) := Lib.hid (ZX2.out.below hB ZX2.out.lt)
                have YX3 : Hid (Blk X3 gw 36 (w8 (rows (wayN seed kn) tall))) := Lib.hid (YX2.out.below hB YX2.out.lt)
                have KX3 : Hid (Blk X3 gx 99 (rsg (signN seed kn d) kn u)) := Lib.hid (KX2.out.below hB KX2.out.lt)
                have UX3 : Hid (X3.ownsRow XU 29 32 u tall (w8 (rows (wayN seed kn) tall))) := Lib.hid (own_keepB UX2.out hB)
                have NX3 : Hid (WayR X3 vf (wayN seed kn) tall) := Lib.hid (NX2.out.below hB)
                clear SX2 DX2 BX2 RX2 AX2 OX2 TX2 ZX2 YX2 KX2 UX2 NX2 hB
                refine ⟨_, rfl, hK.out _ _ (⟨ZX3.out, KX3.out, TX3.out⟩) (fun hHeld => ?_)⟩
                clear hK K
                show wpAnyH _ _ _ _ _ _ _ (Act.put _ (some 177) _) _
                simp only [Act.put, List.setIfInBounds_toArray, List.set_cons_zero, List.set_cons_succ]
                refine wpAnyH_take (i := 10) (v := .bool true) rfl (by kernel_rfl) (by kernel_rfl) (by kernel_rfl) (fun _ _ _ h => h) (Or.inl ⟨by rfl, fun w _ => by rfl⟩) hHeld ?_
                show wpAnyH _ _ _ _ _ _ _ (Act.put _ (some 179) _) _
                simp only [Act.put, List.setIfInBounds_toArray, List.set_cons_zero, List.set_cons_succ]
                refine wpAnyH_take (i := 11) (v := .slice (some ⟨gk, 0, none⟩) (pw tall) (pw tall)) rfl (by kernel_rfl) (by kernel_rfl) (by kernel_rfl) (fun _ _ _ h => h) (Or.inl ⟨by rfl, fun w _ => by rfl⟩) hHeld ?_
                show wpAnyH _ _ _ _ _ _ _ (Act.put _ (some 180) _) _
                simp only [Act.put, List.setIfInBounds_toArray, List.set_cons_zero, List.set_cons_succ]
                refine wpAnyH_take (i := 12) (v := .int .u32 (kn : Int)) rfl (by kernel_rfl) (by kernel_rfl) (by kernel_rfl) (fun _ _ _ h => h) (Or.inl ⟨by rfl, fun w _ => by rfl⟩) hHeld ?_
                show wpAnyH _ _ _ _ _ _ _ (Act.put _ (some 181) _) _
                simp only [Act.put, List.setIfInBounds_toArray, List.set_cons_zero, List.set_cons_succ]
                refine wpAnyH_take (i := 13) (v := .pointer (some ⟨gk, kn, none⟩)) rfl (by kernel_rfl) (by kernel_rfl) (by kernel_rfl) (fun _ _ _ h => h) (Or.inl ⟨by rfl, by intro w' h; go_simp⟩) hHeld ?_
                show wpAnyH _ _ _ _ _ _ _ (Act.put _ (some 182) _) _
                simp only [Act.put, List.setIfInBounds_toArray, List.set_cons_zero, List.set_cons_succ]
                refine wpAnyH_take (i := 14) (v := .bool true) rfl (by kernel_rfl) (by kernel_rfl) (by kernel_rfl) (fun _ _ _ h => h) (Or.inl ⟨by rfl, by intro w' h; have q9 := h.2.2.cell kn; rw [tkc_get _ _ _ hin (by simp [hl256]; omega), set_got tk kn hkl] at q9; go_simp⟩) hHeld ?_
                show wpAnyH _ _ _ _ _ _ _ (Act.put _ (some 183) _) _
                simp only [Act.put, List.setIfInBounds_toArray, List.set_cons_zero, List.set_cons_succ]
                refine wpAnyH_take (i := 15) (v := .bool true) rfl (by kernel_rfl) (by kernel_rfl) (by kernel_rfl) (fun _ _ _ h => h) (Or.inl ⟨by rfl, by intro w hSw; first | rfl | go_simp⟩) hHeld ?_
                show wpAnyH _ _ _ _ _ _ _ (Act.put _ (some 184) _) _
                simp only [Act.put, List.setIfInBounds_toArray, List.set_cons_zero, List.set_cons_succ]
                refine wpAnyH_take (i := 16) (v := .bool false) rfl (by kernel_rfl) (by kernel_rfl) (by kernel_rfl) (fun _ _ _ h => h) (Or.inl ⟨by rfl, by intro w' h; go_simp⟩) hHeld ?_
                show wpAnyH _ _ _ _ _ _ _ (Act.put _ (some 185) _) _
                simp only [Act.put, List.setIfInBounds_toArray, List.set_cons_zero, List.set_cons_succ]
                refine wpAnyH_take (i := 17) (v := .bool false) rfl (by kernel_rfl) (by kernel_rfl) (by kernel_rfl) (fun _ _ _ h => h) (Or.inl ⟨by rfl, by intro w hSw; first | rfl | go_simp⟩) hHeld ?_
                show wpAnyH _ _ _ _ _ _ _ (Act.put _ (some 186) _) _
                simp only [Act.put, List.setIfInBounds_toArray, List.set_cons_zero, List.set_cons_succ]
                refine wpAnyH_done (by kernel_rfl) ?_ _
                clear hHeld
                go_wp2
                go_roundw
                case rel => exact ⟨n + 1, (tk.set kn true), by have := HLT.out; omega, by rw [show ((n + 1 : Nat) : Int) = x + 1 by have := HXN.out; omega], TX3, SX3, DX3, BX3, RX3, AX3, OX3⟩
                case measure => simp [intOf]; omega
              · replace htk : tk.getD kn false = false := by simpa using htk
                have ck := (Bwr.out.cell (p := ⟨gK, oK + x.toNat, none⟩) hgK).trans hkc
                have hrg := Rwr.out.blk.lt
                go_upto_region 14 with fail
                go_upto_region 15 with fail
                go_upto_region 16 with fail
                go_upto_region 17 with fail
                clear ck
                have hB : Below wr.heap.size wr (wr.alloc (.cells Tryd.zeroCells94 94)) := (Below.refl _ _).alloc (Nat.le_refl _) _
                have hkz : gk < wr.heap.size := Twr.out.lt
                have SU1 : Hid (Blk (wr.alloc (.cells Tryd.zeroCells94 94)) w.heap.size 29 (w8 seed)) := Lib.hid (Swr.out.below hB Swr.out.lt)
                have DU1 : Hid (Blk (wr.alloc (.cells Tryd.zeroCells94 94)) (w.heap.size + 1) 29 (w8 d)) := Lib.hid (Dwr.out.below hB Dwr.out.lt)
                have BU1 : Hid (Below w.heap.size w (wr.alloc (.cells Tryd.zeroCells94 94))) := Lib.hid (Bwr.out.trans (hB.mono Bwr.out.size))
                have RU1 : Hid (RingAt (wr.alloc (.cells Tryd.zeroCells94 94)) w.heap.size g seed tall tk v) := Lib.hid (Rwr.out.below hB)
                have AU1 : Hid (Blk (wr.alloc (.cells Tryd.zeroCells94 94)) ga 40 [.string firstText, .string roundText]) := Lib.hid (Awr.out.below hB Awr.out.lt)
                have OU1 : Hid (OutAt (wr.alloc (.cells Tryd.zeroCells94 94)) w.heap.size (.slice (some ⟨go, 0, none⟩) (tall + 1) co) seed tall (tall + 1)) := Lib.hid (Owr.out.below hB)
                have TU1 : Hid (Blk (wr.alloc (.cells Tryd.zeroCells94 94)) gk 4 (tkc tk (pw tall))) := Lib.hid (Twr.out.below hB Twr.out.lt)
                have ZU1 : Hid (Blk (wr.alloc (.cells Tryd.zeroCells94 94)) wr.heap.size 94 zsig) := Lib.hid (by
                  have h := Blk.new wr 94 zsig
                  rw [zsig_arr] at h
                  exact h)
                clear hB Swr Dwr Bwr Rwr Awr Owr Twr
                generalize (wr.alloc (.cells Tryd.zeroCells94 94)) = U1 at SU1 DU1 BU1 RU1 AU1 OU1 TU1 ZU1 ⊢
                generalize wr.heap.size = gz at hkz hrg ZU1 ⊢
                have HRD := Lib.hid DU1.out.all
                have cb := (BU1.out.cell (p := ⟨gB, oB + x.toNat, none⟩) hgB).trans hbc
                go_wp2_with (first | (refine wpList_load_mid rfl 29 (.tmp 9) rfl (w.heap.size + 1) 0 rfl (w8 d) _ HRD.out Tryd.underlying29 rfl HID.out ?_))
                refine (again_none g kn seed d tall w.heap.size tk v U1 RU1 hin htk).mono ?_
                rintro e U2 ⟨rfl, hB⟩
                have SU2 : Hid (Blk U2 w.heap.size 29 (w8 seed)) := Lib.hid (SU1.out.below hB SU1.out.lt)
                have DU2 : Hid (Blk U2 (w.heap.size + 1) 29 (w8 d)) := Lib.hid (DU1.out.below hB DU1.out.lt)
                have BU2 : Hid (Below w.heap.size w U2) := Lib.hid (BU1.out.trans (hB.mono BU1.out.size))
                have RU2 : Hid (RingAt U2 w.heap.size g seed tall tk v) := Lib.hid (RU1.out.below hB)
                have AU2 : Hid (Blk U2 ga 40 [.string firstText, .string roundText]) := Lib.hid (AU1.out.below hB AU1.out.lt)
                have OU2 : Hid (OutAt U2 w.heap.size (.slice (some ⟨go, 0, none⟩) (tall + 1) co) seed tall (tall + 1)) := Lib.hid (OU1.out.below hB)
                have TU2 : Hid (Blk U2 gk 4 (tkc tk (pw tall))) := Lib.hid (TU1.out.below hB TU1.out.lt)
                have ZU2 : Hid (Blk U2 gz 94 zsig) := Lib.hid (ZU1.out.below hB ZU1.out.lt)
                clear SU1 DU1 BU1 RU1 AU1 OU1 TU1 ZU1
                clear hB HRD cb
                have ct : U2.cell? ⟨gk, kn, none⟩ = some (.bool false) := by rw [TU2.out.cell, tkc_get _ _ _ hin hlen, htk]
                go_upto_region 27 with (first | (refine wpList_store_row rfl 94 (.tmp 19) (.tmp 131) rfl gz zsig.toArray rfl rfl 94 _ ZU2.out HS5.out rfl HO5.out ?_))
                have hO : U2.grownBy (U2.setRow gz zsig.toArray) (some gz) := only_setRow (only_refl _ _) _
                have hbk := ZU2.out
                have SU3 : Hid (Blk (U2.setRow gz zsig.toArray) w.heap.size 29 (w8 seed)) := Lib.hid (SU2.out.grown hO (fun e => by injection e with e; omega))
                have DU3 : Hid (Blk (U2.setRow gz zsig.toArray) (w.heap.size + 1) 29 (w8 d)) := Lib.hid (DU2.out.grown hO (fun e => by injection e with e; omega))
                have BU3 : Hid (Below w.heap.size w (U2.setRow gz zsig.toArray)) := Lib.hid (BU2.out.trans (only_up hO (by omega) BU2.out.size))
                have RU3 : Hid (RingAt (U2.setRow gz zsig.toArray) w.heap.size g seed tall tk v) := Lib.hid (RU2.out.other hO hbk (by decide) (by decide) (by decide))
                have AU3 : Hid (Blk (U2.setRow gz zsig.toArray) ga 40 [.string firstText, .string roundText]) := Lib.hid (AU2.out.grown hO (fun e => by injection e with e; omega))
                have OU3 : Hid (OutAt (U2.setRow gz zsig.toArray) w.heap.size (.slice (some ⟨go, 0, none⟩) (tall + 1) co) seed tall (tall + 1)) := Lib.hid (OU2.out.far hO hbk (by decide) (by decide))
                have TU3 : Hid (Blk (U2.setRow gz zsig.toArray) gk 4 (tkc tk (pw tall))) := Lib.hid (TU2.out.grown hO (fun e => by injection e with e; omega))
                have ZU3 : Hid (Blk (U2.setRow gz zsig.toArray) gz 94 zsig) := Lib.hid (ZU2.out.setRow _)
                clear hO hbk ct SU2 DU2 BU2 RU2 AU2 OU2 TU2 ZU2
                generalize (U2.setRow gz zsig.toArray) = U3 at SU3 DU3 BU3 RU3 AU3 OU3 TU3 ZU3 ⊢
                have ct : U3.cell? ⟨gk, kn, none⟩ = some (.bool false) := by rw [TU3.out.cell, tkc_get _ _ _ hin hlen, htk]
                go_upto_region 35 with fail
                clear ct
                have HL := Lib.hid (heap_alloc_last U3 (.cells Tryd.zeroCells99 99))
                go_upto_region 36 with (first | (refine wpList_store_row rfl 99 (.tmp 22) (.tmp 151) rfl U3.heap.size zsig.toArray rfl (congrArg Value.agg zsig_arr9.symm) 99 _ HL.out HS9.out HZ9.out HO9.out ?_; rw [World.setRow_alloc_new]))
                have hB : Below U3.heap.size U3 (U3.alloc (.cells zsig.toArray 99)) := (Below.refl _ _).alloc (Nat.le_refl _) _
                have SU4 : Hid (Blk (U3.alloc (.cells zsig.toArray 99)) w.heap.size 29 (w8 seed)) := Lib.hid (SU3.out.below hB SU3.out.lt)
                have DU4 : Hid (Blk (U3.alloc (.cells zsig.toArray 99)) (w.heap.size + 1) 29 (w8 d)) := Lib.hid (DU3.out.below hB DU3.out.lt)
                have BU4 : Hid (Below w.heap.size w (U3.alloc (.cells zsig.toArray 99))) := Lib.hid (BU3.out.trans (hB.mono BU3.out.size))
                have RU4 : Hid (RingAt (U3.alloc (.cells zsig.toArray 99)) w.heap.size g seed tall tk v) := Lib.hid (RU3.out.below hB)
                have AU4 : Hid (Blk (U3.alloc (.cells zsig.toArray 99)) ga 40 [.string firstText, .string roundText]) := Lib.hid (AU3.out.below hB AU3.out.lt)
                have OU4 : Hid (OutAt (U3.alloc (.cells zsig.toArray 99)) w.heap.size (.slice (some ⟨go, 0, none⟩) (tall + 1) co) seed tall (tall + 1)) := Lib.hid (OU3.out.below hB)
                have TU4 : Hid (Blk (U3.alloc (.cells zsig.toArray 99)) gk 4 (tkc tk (pw tall))) := Lib.hid (TU3.out.below hB TU3.out.lt)
                have ZU4 : Hid (Blk (U3.alloc (.cells zsig.toArray 99)) gz 94 zsig) := Lib.hid (ZU3.out.below hB ZU3.out.lt)
                have KU4 : Hid (Blk (U3.alloc (.cells zsig.toArray 99)) U3.heap.size 99 zsig) := Lib.hid (Blk.new _ _ _)
                have HKX : Hid (gz < U3.heap.size) := Lib.hid ZU3.out.lt
                clear hB HL SU3 DU3 BU3 RU3 AU3 OU3 TU3 ZU3
                generalize (U3.alloc (.cells zsig.toArray 99)) = U4 at SU4 DU4 BU4 RU4 AU4 OU4 TU4 ZU4 KU4 ⊢
                generalize U3.heap.size = gx at KU4 HKX ⊢
                have hzx := HKX.out
                have cb := (BU4.out.cell (p := ⟨gB, oB + x.toNat, none⟩) hgB).trans hbc
                go_upto_region 38 with fail
                clear cb
                have hBz : Below U4.heap.size U4 U4.drew := below_drewN (Below.refl _ _) 1
                have SX0 : Hid (Blk U4.drew w.heap.size 29 (w8 seed)) := Lib.hid (SU4.out.below hBz SU4.out.lt)
                have DX0 : Hid (Blk U4.drew (w.heap.size + 1) 29 (w8 d)) := Lib.hid (DU4.out.below hBz DU4.out.lt)
                have BX0 : Hid (Below w.heap.size w U4.drew) := Lib.hid (BU4.out.trans (hBz.mono BU4.out.size))
                have RX0 : Hid (RingAt U4.drew w.heap.size g seed tall tk v) := Lib.hid (RU4.out.below hBz)
                have AX0 : Hid (Blk U4.drew ga 40 [.string firstText, .string roundText]) := Lib.hid (AU4.out.below hBz AU4.out.lt)
                have OX0 : Hid (OutAt U4.drew w.heap.size (.slice (some ⟨go, 0, none⟩) (tall + 1) co) seed tall (tall + 1)) := Lib.hid (OU4.out.below hBz)
                have TX0 : Hid (Blk U4.drew gk 4 (tkc tk (pw tall))) := Lib.hid (TU4.out.below hBz TU4.out.lt)
                have ZX0 : Hid (Blk U4.drew gz 94 zsig) := Lib.hid (ZU4.out.below hBz ZU4.out.lt)
                have KX0 : Hid (Blk U4.drew gx 99 zsig) := Lib.hid (KU4.out.below hBz KU4.out.lt)
                clear hBz
                refine wp_region_held_drew (S := fun w' => Blk w' gz 94 zsig ∧ Blk w' gx 99 zsig ∧ Blk w' gk 4 (tkc tk (pw tall))) (by kernel_rfl) (⟨ZX0.out, KX0.out, TX0.out⟩) (fun hHeld => ?_)
                generalize U4.drew = X0 at hHeld SX0 DX0 BX0 RX0 AX0 OX0 TX0 ZX0 KX0 ⊢
                refine wpAnyH_take (i := 0) (v := .agg zsig.toArray) rfl (by kernel_rfl) (by kernel_rfl) (by kernel_rfl) (fun _ _ _ h => h) (yieldsIf_load_mid rfl 94 (.tmp 19) rfl gz 0 rfl zsig _ (fun w' h => Blk.all h.1) Tryd.underlying94 rfl (by rw [zsig_length]; exact info94)) hHeld ?_
                show wpAnyH _ _ _ _ _ _ _ (Act.put _ (some 169) _) _
                simp only [Act.put, List.setIfInBounds_toArray, List.set_cons_zero, List.set_cons_succ]
                refine wpAnyH_take (i := 2) (v := .agg zsig.toArray) rfl (by kernel_rfl) (by kernel_rfl) (by kernel_rfl) (fun _ _ _ h => h) (yieldsIf_load_mid rfl 99 (.tmp 22) rfl gx 0 rfl zsig _ (fun w' h => Blk.all h.2.1) Tryd.underlying99 rfl (by rw [zsig_length]; exact info99)) hHeld ?_
                show wpAnyH _ _ _ _ _ _ _ (Act.put _ (some 171) _) _
                simp only [Act.put, List.setIfInBounds_toArray, List.set_cons_zero, List.set_cons_succ]
                refine wpAnyH_ready (rs := [1]) (by kernel_rfl) (by simp) ?_
                refine AllReadyH.cons rfl (fun K hK => ?_) AllReadyH.nil
                refine step_call rfl 53 #[.tmp 169] #[94] rfl #[.agg zsig.toArray] (by simp [Act.eval]) (by go_simp) (from_zero X0) ?_
                rintro e X1 ⟨vf, rfl, hwf, hB⟩
                have SX1 : Hid (Blk X1 w.heap.size 29 (w8 seed)) := Lib.hid (SX0.out.below hB SX0.out.lt)
                have DX1 : Hid (Blk X1 (w.heap.size + 1) 29 (w8 d)) := Lib.hid (DX0.out.below hB DX0.out.lt)
                have BX1 : Hid (Below w.heap.size w X1) := Lib.hid (BX0.out.trans (hB.mono BX0.out.size))
                have RX1 : Hid (RingAt X1 w.heap.size g seed tall tk v) := Lib.hid (RX0.out.below hB)
                have AX1 : Hid (Blk X1 ga 40 [.string firstText, .string roundText]) := Lib.hid (AX0.out.below hB AX0.out.lt)
                have OX1 : Hid (OutAt X1 w.heap.size (.slice (some ⟨go, 0, none⟩) (tall + 1) co) seed tall (tall + 1)) := Lib.hid (OX0.out.below hB)
                have TX1 : Hid (Blk X1 gk 4 (tkc tk (pw tall))) := Lib.hid (TX0.out.below hB TX0.out.lt)
                have ZX1 : Hid (Blk X1 gz 94 zsig) := Lib.hid (ZX0.out.below hB ZX0.out.lt)
                have KX1 : Hid (Blk X1 gx 99 zsig) := Lib.hid (KX0.out.below hB KX0.out.lt)
                have NX1 : Hid (WayR X1 vf zW 0) := Lib.hid (hwf)
                clear SX0 DX0 BX0 RX0 AX0 OX0 TX0 ZX0 KX0 hB hwf
                refine ⟨_, rfl, hK.out _ _ (⟨ZX1.out, KX1.out, TX1.out⟩) (fun hHeld => ?_)⟩
                clear hK K
                show wpAnyH _ _ _ _ _ _ _ (Act.put _ (some 170) _) _
                simp only [Act.put, List.setIfInBounds_toArray, List.set_cons_zero, List.set_cons_succ]
                refine wpAnyH_ready (rs := [3]) (by kernel_rfl) (by simp) ?_
                refine AllReadyH.cons rfl (fun K hK => ?_) AllReadyH.nil
                refine step_call rfl 52 #[.tmp 170, .tmp 171] #[99, 99] rfl #[.agg (rsg zS 0 vf).toArray, .agg zsig.toArray] (by simp [Act.eval]) (by go_simp) (same_zero vf X1 NX1) ?_
                rintro e X2 ⟨rfl, hB⟩
                have SX2 : Hid (Blk X2 w.heap.size 29 (w8 seed)) := Lib.hid (SX1.out.below hB SX1.out.lt)
                have DX2 : Hid (Blk X2 (w.heap.size + 1) 29 (w8 d)) := Lib.hid (DX1.out.below hB DX1.out.lt)
                have BX2 : Hid (Below w.heap.size w X2) := Lib.hid (BX1.out.trans (hB.mono BX1.out.size))
                have RX2 : Hid (RingAt X2 w.heap.size g seed tall tk v) := Lib.hid (RX1.out.below hB)
                have AX2 : Hid (Blk X2 ga 40 [.string firstText, .string roundText]) := Lib.hid (AX1.out.below hB AX1.out.lt)
                have OX2 : Hid (OutAt X2 w.heap.size (.slice (some ⟨go, 0, none⟩) (tall + 1) co) seed tall (tall + 1)) := Lib.hid (OX1.out.below hB)
                have TX2 : Hid (Blk X2 gk 4 (tkc tk (pw tall))) := Lib.hid (TX1.out.below hB TX1.out.lt)
                have ZX2 : Hid (Blk X2 gz 94 zsig) := Lib.hid (ZX1.out.below hB ZX1.out.lt)
                have KX2 : Hid (Blk X2 gx 99 zsig) := Lib.hid (KX1.out.below hB KX1.out.lt)
                have NX2 : Hid (WayR X2 vf zW 0) := Lib.hid (NX1.out.below hB)
                clear SX1 DX1 BX1 RX1 AX1 OX1 TX1 ZX1 KX1 NX1 hB
                refine ⟨_, rfl, hK.out _ _ (⟨ZX2.out, KX2.out, TX2.out⟩) (fun hHeld => ?_)⟩
                clear hK K
                show wpAnyH _ _ _ _ _ _ _ (Act.put _ (some 172) _) _
                simp only [Act.put, List.setIfInBounds_toArray, List.set_cons_zero, List.set_cons_succ]
                refine wpAnyH_take (i := 4) (v := .bool false) rfl (by kernel_rfl) (by kernel_rfl) (by kernel_rfl) (fun _ _ _ h => h) (Or.inl ⟨by rfl, by intro w' h; go_simp⟩) hHeld ?_
                show wpAnyH _ _ _ _ _ _ _ (Act.put _ (some 173) _) _
                simp only [Act.put, List.setIfInBounds_toArray, List.set_cons_zero, List.set_cons_succ]
                refine wpAnyH_take (i := 5) (v := .bool false) rfl (by kernel_rfl) (by kernel_rfl) (by kernel_rfl) (fun _ _ _ h => h) (Or.inl ⟨by rfl, fun w _ => by rfl⟩) hHeld ?_
                show wpAnyH _ _ _ _ _ _ _ (Act.put _ (some 174) _) _
                simp only [Act.put, List.setIfInBounds_toArray, List.set_cons_zero, List.set_cons_succ]
                refine wpAnyH_take (i := 6) (v := .pointer (some ⟨g, 0, none⟩)) rfl (by kernel_rfl) (by kernel_rfl) (by kernel_rfl) (fun _ _ _ h => h) (Or.inl ⟨by rfl, fun w _ => by rfl⟩) hHeld ?_
                show wpAnyH _ _ _ _ _ _ _ (Act.put _ (some 175) _) _
                simp only [Act.put, List.setIfInBounds_toArray, List.set_cons_zero, List.set_cons_succ]
                refine wpAnyH_take (i := 7) (v := .int .u32 (kn : Int)) rfl (by kernel_rfl) (by kernel_rfl) (by kernel_rfl) (fun _ _ _ h => h) (Or.inl ⟨by rfl, fun w _ => by rfl⟩) hHeld ?_
                show wpAnyH _ _ _ _ _ _ _ (Act.put _ (some 176) _) _
                simp only [Act.put, List.setIfInBounds_toArray, List.set_cons_zero, List.set_cons_succ]
                refine wpAnyH_take (i := 9) (v := .bool true) rfl (by kernel_rfl) (by kernel_rfl) (by kernel_rfl) (fun _ _ _ h => h) (Or.inl ⟨by rfl, fun w _ => by rfl⟩) hHeld ?_
                show wpAnyH _ _ _ _ _ _ _ (Act.put _ (some 178) _) _
                simp only [Act.put, List.setIfInBounds_toArray, List.set_cons_zero, List.set_cons_succ]
                refine wpAnyH_ready (rs := [8]) (by kernel_rfl) (by simp) ?_
                refine AllReadyH.cons rfl (fun K hK => ?_) AllReadyH.nil
                have hcT := taken_any g kn seed tall w.heap.size tk v X2 RX2 HK32.out
                rw [decide_eq_true hin, htk, Bool.true_and] at hcT
                refine step_call rfl 54 #[.tmp 175, .tmp 176] #[84, 38] rfl #[.pointer (some ⟨g, 0, none⟩), .int .u32 (kn : Int)] (by simp [Act.eval]) (by go_simp) (hcT) ?_
                rintro e X3 ⟨rfl, hB⟩
                have SX3 : Hid (Blk X3 w.heap.size 29 (w8 seed)) := Lib.hid (SX2.out.below hB SX2.out.lt)
                have DX3 : Hid (Blk X3 (w.heap.size + 1) 29 (w8 d)) := Lib.hid (DX2.out.below hB DX2.out.lt)
                have BX3 : Hid (Below w.heap.size w X3) := Lib.hid (BX2.out.trans (hB.mono BX2.out.size))
                have RX3 : Hid (RingAt X3 w.heap.size g seed tall tk v) := Lib.hid (RX2.out.below hB)
                have AX3 : Hid (Blk X3 ga 40 [.string firstText, .string roundText]) := Lib.hid (AX2.out.below hB AX2.out.lt)
                have OX3 : Hid (OutAt X3 w.heap.size (.slice (some ⟨go, 0, none⟩) (tall + 1) co) seed tall (tall + 1)) := Lib.hid (OX2.out.below hB)
                have TX3 : Hid (Blk X3 gk 4 (tkc tk (pw tall))) := Lib.hid (TX2.out.below hB TX2.out.lt)
                have ZX3 : Hid (Blk X3 gz 94 zsig) := Lib.hid (ZX2.out.below hB ZX2.out.lt)
                have KX3 : Hid (Blk X3 gx 99 zsig) := Lib.hid (KX2.out.below hB KX2.out.lt)
                have NX3 : Hid (WayR X3 vf zW 0) := Lib.hid (NX2.out.below hB)
                clear SX2 DX2 BX2 RX2 AX2 OX2 TX2 ZX2 KX2 NX2 hB
                refine ⟨_, rfl, hK.out _ _ (⟨ZX3.out, KX3.out, TX3.out⟩) (fun hHeld => ?_)⟩
                clear hK K
                show wpAnyH _ _ _ _ _ _ _ (Act.put _ (some 177) _) _
                simp only [Act.put, List.setIfInBounds_toArray, List.set_cons_zero, List.set_cons_succ]
                refine wpAnyH_take (i := 10) (v := .bool true) rfl (by kernel_rfl) (by kernel_rfl) (by kernel_rfl) (fun _ _ _ h => h) (Or.inl ⟨by rfl, fun w _ => by rfl⟩) hHeld ?_
                show wpAnyH _ _ _ _ _ _ _ (Act.put _ (some 179) _) _
                simp only [Act.put, List.setIfInBounds_toArray, List.set_cons_zero, List.set_cons_succ]
                refine wpAnyH_take (i := 11) (v := .slice (some ⟨gk, 0, none⟩) (pw tall) (pw tall)) rfl (by kernel_rfl) (by kernel_rfl) (by kernel_rfl) (fun _ _ _ h => h) (Or.inl ⟨by rfl, fun w _ => by rfl⟩) hHeld ?_
                show wpAnyH _ _ _ _ _ _ _ (Act.put _ (some 180) _) _
                simp only [Act.put, List.setIfInBounds_toArray, List.set_cons_zero, List.set_cons_succ]
                refine wpAnyH_take (i := 12) (v := .int .u32 (kn : Int)) rfl (by kernel_rfl) (by kernel_rfl) (by kernel_rfl) (fun _ _ _ h => h) (Or.inl ⟨by rfl, fun w _ => by rfl⟩) hHeld ?_
                show wpAnyH _ _ _ _ _ _ _ (Act.put _ (some 181) _) _
                simp only [Act.put, List.setIfInBounds_toArray, List.set_cons_zero, List.set_cons_succ]
                refine wpAnyH_take (i := 13) (v := .pointer (some ⟨gk, kn, none⟩)) rfl (by kernel_rfl) (by kernel_rfl) (by kernel_rfl) (fun _ _ _ h => h) (Or.inl ⟨by rfl, by intro w' h; go_simp⟩) hHeld ?_
                show wpAnyH _ _ _ _ _ _ _ (Act.put _ (some 182) _) _
                simp only [Act.put, List.setIfInBounds_toArray, List.set_cons_zero, List.set_cons_succ]
                refine wpAnyH_take (i := 14) (v := .bool false) rfl (by kernel_rfl) (by kernel_rfl) (by kernel_rfl) (fun _ _ _ h => h) (Or.inl ⟨by rfl, by intro w' h; have q9 := h.2.2.cell kn; rw [tkc_get _ _ _ hin (by simp [hl256]; omega), htk] at q9; go_simp⟩) hHeld ?_
                show wpAnyH _ _ _ _ _ _ _ (Act.put _ (some 183) _) _
                simp only [Act.put, List.setIfInBounds_toArray, List.set_cons_zero, List.set_cons_succ]
                refine wpAnyH_take (i := 15) (v := .bool false) rfl (by kernel_rfl) (by kernel_rfl) (by kernel_rfl) (fun _ _ _ h => h) (Or.inl ⟨by rfl, by intro w hSw; first | rfl | go_simp⟩) hHeld ?_
                show wpAnyH _ _ _ _ _ _ _ (Act.put _ (some 184) _) _
                simp only [Act.put, List.setIfInBounds_toArray, List.set_cons_zero, List.set_cons_succ]
                refine wpAnyH_take (i := 16) (v := .bool false) rfl (by kernel_rfl) (by kernel_rfl) (by kernel_rfl) (fun _ _ _ h => h) (Or.inl ⟨by rfl, by intro w' h; go_simp⟩) hHeld ?_
                show wpAnyH _ _ _ _ _ _ _ (Act.put _ (some 185) _) _
                simp only [Act.put, List.setIfInBounds_toArray, List.set_cons_zero, List.set_cons_succ]
                refine wpAnyH_take (i := 17) (v := .bool false) rfl (by kernel_rfl) (by kernel_rfl) (by kernel_rfl) (fun _ _ _ h => h) (Or.inl ⟨by rfl, by intro w hSw; first | rfl | go_simp⟩) hHeld ?_
                show wpAnyH _ _ _ _ _ _ _ (Act.put _ (some 186) _) _
                simp only [Act.put, List.setIfInBounds_toArray, List.set_cons_zero, List.set_cons_succ]
                refine wpAnyH_done (by kernel_rfl) ?_ _
                clear hHeld
                go_wp2
                go_roundw
                case rel => exact ⟨n + 1, tk, by have := HLT.out; omega, by rw [show ((n + 1 : Nat) : Int) = x + 1 by have := HXN.out; omega], TX3, SX3, DX3, BX3, RX3, AX3, OX3⟩
                case measure => simp [intOf]; omega
            · have hini : ¬ (kn : Int) < ((pw tall : Nat) : Int) := by omega
              have ck := (Bwr.out.cell (p := ⟨gK, oK + x.toNat, none⟩) hgK).trans hkc
              have hrg := Rwr.out.blk.lt
              go_upto_region 14 with fail
              go_upto_region 15 with fail
              go_upto_region 16 with fail
              go_upto_region 17 with fail
              clear ck
              have hB : Below wr.heap.size wr (wr.alloc (.cells Tryd.zeroCells94 94)) := (Below.refl _ _).alloc (Nat.le_refl _) _
              have hkz : gk < wr.heap.size := Twr.out.lt
              have SU1 : Hid (Blk (wr.alloc (.cells Tryd.zeroCells94 94)) w.heap.size 29 (w8 seed)) := Lib.hid (Swr.out.below hB Swr.out.lt)
              have DU1 : Hid (Blk (wr.alloc (.cells Tryd.zeroCells94 94)) (w.heap.size + 1) 29 (w8 d)) := Lib.hid (Dwr.out.below hB Dwr.out.lt)
              have BU1 : Hid (Below w.heap.size w (wr.alloc (.cells Tryd.zeroCells94 94))) := Lib.hid (Bwr.out.trans (hB.mono Bwr.out.size))
              have RU1 : Hid (RingAt (wr.alloc (.cells Tryd.zeroCells94 94)) w.heap.size g seed tall tk v) := Lib.hid (Rwr.out.below hB)
              have AU1 : Hid (Blk (wr.alloc (.cells Tryd.zeroCells94 94)) ga 40 [.string firstText, .string roundText]) := Lib.hid (Awr.out.below hB Awr.out.lt)
              have OU1 : Hid (OutAt (wr.alloc (.cells Tryd.zeroCells94 94)) w.heap.size (.slice (some ⟨go, 0, none⟩) (tall + 1) co) seed tall (tall + 1)) := Lib.hid (Owr.out.below hB)
              have TU1 : Hid (Blk (wr.alloc (.cells Tryd.zeroCells94 94)) gk 4 (tkc tk (pw tall))) := Lib.hid (Twr.out.below hB Twr.out.lt)
              have ZU1 : Hid (Blk (wr.alloc (.cells Tryd.zeroCells94 94)) wr.heap.size 94 zsig) := Lib.hid (by
                have h := Blk.new wr 94 zsig
                rw [zsig_arr] at h
                exact h)
              clear hB Swr Dwr Bwr Rwr Awr Owr Twr
              generalize (wr.alloc (.cells Tryd.zeroCells94 94)) = U1 at SU1 DU1 BU1 RU1 AU1 OU1 TU1 ZU1 ⊢
              generalize wr.heap.size = gz at hkz hrg ZU1 ⊢
              have HRD := Lib.hid DU1.out.all
              have cb := (BU1.out.cell (p := ⟨gB, oB + x.toNat, none⟩) hgB).trans hbc
              go_wp2_with (first | (refine wpList_load_mid rfl 29 (.tmp 9) rfl (w.heap.size + 1) 0 rfl (w8 d) _ HRD.out Tryd.underlying29 rfl HID.out ?_))
              refine (again_far g kn seed d tall w.heap.size tk v U1 RU1 HK32.out hin).mono ?_
              rintro e U2 ⟨rfl, hB⟩
              have SU2 : Hid (Blk U2 w.heap.size 29 (w8 seed)) := Lib.hid (SU1.out.below hB SU1.out.lt)
              have DU2 : Hid (Blk U2 (w.heap.size + 1) 29 (w8 d)) := Lib.hid (DU1.out.below hB DU1.out.lt)
              have BU2 : Hid (Below w.heap.size w U2) := Lib.hid (BU1.out.trans (hB.mono BU1.out.size))
              have RU2 : Hid (RingAt U2 w.heap.size g seed tall tk v) := Lib.hid (RU1.out.below hB)
              have AU2 : Hid (Blk U2 ga 40 [.string firstText, .string roundText]) := Lib.hid (AU1.out.below hB AU1.out.lt)
              have OU2 : Hid (OutAt U2 w.heap.size (.slice (some ⟨go, 0, none⟩) (tall + 1) co) seed tall (tall + 1)) := Lib.hid (OU1.out.below hB)
              have TU2 : Hid (Blk U2 gk 4 (tkc tk (pw tall))) := Lib.hid (TU1.out.below hB TU1.out.lt)
              have ZU2 : Hid (Blk U2 gz 94 zsig) := Lib.hid (ZU1.out.below hB ZU1.out.lt)
              clear SU1 DU1 BU1 RU1 AU1 OU1 TU1 ZU1
              clear hB HRD cb
              go_upto_region 27 with (first | (refine wpList_store_row rfl 94 (.tmp 19) (.tmp 131) rfl gz zsig.toArray rfl rfl 94 _ ZU2.out HS5.out rfl HO5.out ?_))
              have hO : U2.grownBy (U2.setRow gz zsig.toArray) (some gz) := only_setRow (only_refl _ _) _
              have hbk := ZU2.out
              have SU3 : Hid (Blk (U2.setRow gz zsig.toArray) w.heap.size 29 (w8 seed)) := Lib.hid (SU2.out.grown hO (fun e => by injection e with e; omega))
              have DU3 : Hid (Blk (U2.setRow gz zsig.toArray) (w.heap.size + 1) 29 (w8 d)) := Lib.hid (DU2.out.grown hO (fun e => by injection e with e; omega))
              have BU3 : Hid (Below w.heap.size w (U2.setRow gz zsig.toArray)) := Lib.hid (BU2.out.trans (only_up hO (by omega) BU2.out.size))
              have RU3 : Hid (RingAt (U2.setRow gz zsig.toArray) w.heap.size g seed tall tk v) := Lib.hid (RU2.out.other hO hbk (by decide) (by decide) (by decide))
              have AU3 : Hid (Blk (U2.setRow gz zsig.toArray) ga 40 [.string firstText, .string roundText]) := Lib.hid (AU2.out.grown hO (fun e => by injection e with e; omega))
              have OU3 : Hid (OutAt (U2.setRow gz zsig.toArray) w.heap.size (.slice (some ⟨go, 0, none⟩) (tall + 1) co) seed tall (tall + 1)) := Lib.hid (OU2.out.far hO hbk (by decide) (by decide))
              have TU3 : Hid (Blk (U2.setRow gz zsig.toArray) gk 4 (tkc tk (pw tall))) := Lib.hid (TU2.out.grown hO (fun e => by injection e with e; omega))
              have ZU3 : Hid (Blk (U2.setRow gz zsig.toArray) gz 94 zsig) := Lib.hid (ZU2.out.setRow _)
              clear hO hbk SU2 DU2 BU2 RU2 AU2 OU2 TU2 ZU2
              generalize (U2.setRow gz zsig.toArray) = U3 at SU3 DU3 BU3 RU3 AU3 OU3 TU3 ZU3 ⊢
              go_upto_region 35 with fail
              have HL := Lib.hid (heap_alloc_last U3 (.cells Tryd.zeroCells99 99))
              go_upto_region 36 with (first | (refine wpList_store_row rfl 99 (.tmp 22) (.tmp 151) rfl U3.heap.size zsig.toArray rfl (congrArg Value.agg zsig_arr9.symm) 99 _ HL.out HS9.out HZ9.out HO9.out ?_; rw [World.setRow_alloc_new]))
              have hB : Below U3.heap.size U3 (U3.alloc (.cells zsig.toArray 99)) := (Below.refl _ _).alloc (Nat.le_refl _) _
              have SU4 : Hid (Blk (U3.alloc (.cells zsig.toArray 99)) w.heap.size 29 (w8 seed)) := Lib.hid (SU3.out.below hB SU3.out.lt)
              have DU4 : Hid (Blk (U3.alloc (.cells zsig.toArray 99)) (w.heap.size + 1) 29 (w8 d)) := Lib.hid (DU3.out.below hB DU3.out.lt)
              have BU4 : Hid (Below w.heap.size w (U3.alloc (.cells zsig.toArray 99))) := Lib.hid (BU3.out.trans (hB.mono BU3.out.size))
              have RU4 : Hid (RingAt (U3.alloc (.cells zsig.toArray 99)) w.heap.size g seed tall tk v) := Lib.hid (RU3.out.below hB)
              have AU4 : Hid (Blk (U3.alloc (.cells zsig.toArray 99)) ga 40 [.string firstText, .string roundText]) := Lib.hid (AU3.out.below hB AU3.out.lt)
              have OU4 : Hid (OutAt (U3.alloc (.cells zsig.toArray 99)) w.heap.size (.slice (some ⟨go, 0, none⟩) (tall + 1) co) seed tall (tall + 1)) := Lib.hid (OU3.out.below hB)
              have TU4 : Hid (Blk (U3.alloc (.cells zsig.toArray 99)) gk 4 (tkc tk (pw tall))) := Lib.hid (TU3.out.below hB TU3.out.lt)
              have ZU4 : Hid (Blk (U3.alloc (.cells zsig.toArray 99)) gz 94 zsig) := Lib.hid (ZU3.out.below hB ZU3.out.lt)
              have KU4 : Hid (Blk (U3.alloc (.cells zsig.toArray 99)) U3.heap.size 99 zsig) := Lib.hid (Blk.new _ _ _)
              have HKX : Hid (gz < U3.heap.size) := Lib.hid ZU3.out.lt
              clear hB HL SU3 DU3 BU3 RU3 AU3 OU3 TU3 ZU3
              generalize (U3.alloc (.cells zsig.toArray 99)) = U4 at SU4 DU4 BU4 RU4 AU4 OU4 TU4 ZU4 KU4 ⊢
              generalize U3.heap.size = gx at KU4 HKX ⊢
              have hzx := HKX.out
              have cb := (BU4.out.cell (p := ⟨gB, oB + x.toNat, none⟩) hgB).trans hbc
              go_upto_region 38 with fail
              clear cb
              have hBz : Below U4.heap.size U4 U4.drew := below_drewN (Below.refl _ _) 1
              have SX0 : Hid (Blk U4.drew w.heap.size 29 (w8 seed)) := Lib.hid (SU4.out.below hBz SU4.out.lt)
              have DX0 : Hid (Blk U4.drew (w.heap.size + 1) 29 (w8 d)) := Lib.hid (DU4.out.below hBz DU4.out.lt)
              have BX0 : Hid (Below w.heap.size w U4.drew) := Lib.hid (BU4.out.trans (hBz.mono BU4.out.size))
              have RX0 : Hid (RingAt U4.drew w.heap.size g seed tall tk v) := Lib.hid (RU4.out.below hBz)
              have AX0 : Hid (Blk U4.drew ga 40 [.string firstText, .string roundText]) := Lib.hid (AU4.out.below hBz AU4.out.lt)
              have OX0 : Hid (OutAt U4.drew w.heap.size (.slice (some ⟨go, 0, none⟩) (tall + 1) co) seed tall (tall + 1)) := Lib.hid (OU4.out.below hBz)
              have TX0 : Hid (Blk U4.drew gk 4 (tkc tk (pw tall))) := Lib.hid (TU4.out.below hBz TU4.out.lt)
              have ZX0 : Hid (Blk U4.drew gz 94 zsig) := Lib.hid (ZU4.out.below hBz ZU4.out.lt)
              have KX0 : Hid (Blk U4.drew gx 99 zsig) := Lib.hid (KU4.out.below hBz KU4.out.lt)
              clear hBz
              refine wp_region_held_drew (S := fun w' => Blk w' gz 94 zsig ∧ Blk w' gx 99 zsig ∧ Blk w' gk 4 (tkc tk (pw tall))) (by kernel_rfl) (⟨ZX0.out, KX0.out, TX0.out⟩) (fun hHeld => ?_)
              generalize U4.drew = X0 at hHeld SX0 DX0 BX0 RX0 AX0 OX0 TX0 ZX0 KX0 ⊢
              refine wpAnyH_take (i := 0) (v := .agg zsig.toArray) rfl (by kernel_rfl) (by kernel_rfl) (by kernel_rfl) (fun _ _ _ h => h) (yieldsIf_load_mid rfl 94 (.tmp 19) rfl gz 0 rfl zsig _ (fun w' h => Blk.all h.1) Tryd.underlying94 rfl (by rw [zsig_length]; exact info94)) hHeld ?_
              show wpAnyH _ _ _ _ _ _ _ (Act.put _ (some 169) _) _
              simp only [Act.put, List.setIfInBounds_toArray, List.set_cons_zero, List.set_cons_succ]
              refine wpAnyH_take (i := 2) (v := .agg zsig.toArray) rfl (by kernel_rfl) (by kernel_rfl) (by kernel_rfl) (fun _ _ _ h => h) (yieldsIf_load_mid rfl 99 (.tmp 22) rfl gx 0 rfl zsig _ (fun w' h => Blk.all h.2.1) Tryd.underlying99 rfl (by rw [zsig_length]; exact info99)) hHeld ?_
              show wpAnyH _ _ _ _ _ _ _ (Act.put _ (some 171) _) _
              simp only [Act.put, List.setIfInBounds_toArray, List.set_cons_zero, List.set_cons_succ]
              refine wpAnyH_ready (rs := [1]) (by kernel_rfl) (by simp) ?_
              refine AllReadyH.cons rfl (fun K hK => ?_) AllReadyH.nil
              refine step_call rfl 53 #[.tmp 169] #[94] rfl #[.agg zsig.toArray] (by simp [Act.eval]) (by go_simp) (from_zero X0) ?_
              rintro e X1 ⟨vf, rfl, hwf, hB⟩
              have SX1 : Hid (Blk X1 w.heap.size 29 (w8 seed)) := Lib.hid (SX0.out.below hB SX0.out.lt)
              have DX1 : Hid (Blk X1 (w.heap.size + 1) 29 (w8 d)) := Lib.hid (DX0.out.below hB DX0.out.lt)
              have BX1 : Hid (Below w.heap.size w X1) := Lib.hid (BX0.out.trans (hB.mono BX0.out.size))
              have RX1 : Hid (RingAt X1 w.heap.size g seed tall tk v) := Lib.hid (RX0.out.below hB)
              have AX1 : Hid (Blk X1 ga 40 [.string firstText, .string roundText]) := Lib.hid (AX0.out.below hB AX0.out.lt)
              have OX1 : Hid (OutAt X1 w.heap.size (.slice (some ⟨go, 0, none⟩) (tall + 1) co) seed tall (tall + 1)) := Lib.hid (OX0.out.below hB)
              have TX1 : Hid (Blk X1 gk 4 (tkc tk (pw tall))) := Lib.hid (TX0.out.below hB TX0.out.lt)
              have ZX1 : Hid (Blk X1 gz 94 zsig) := Lib.hid (ZX0.out.below hB ZX0.out.lt)
              have KX1 : Hid (Blk X1 gx 99 zsig) := Lib.hid (KX0.out.below hB KX0.out.lt)
              have NX1 : Hid (WayR X1 vf zW 0) := Lib.hid (hwf)
              clear SX0 DX0 BX0 RX0 AX0 OX0 TX0 ZX0 KX0 hB hwf
              refine ⟨_, rfl, hK.out _ _ (⟨ZX1.out, KX1.out, TX1.out⟩) (fun hHeld => ?_)⟩
              clear hK K
              show wpAnyH _ _ _ _ _ _ _ (Act.put _ (some 170) _) _
              simp only [Act.put, List.setIfInBounds_toArray, List.set_cons_zero, List.set_cons_succ]
              refine wpAnyH_ready (rs := [3]) (by kernel_rfl) (by simp) ?_
              refine AllReadyH.cons rfl (fun K hK => ?_) AllReadyH.nil
              refine step_call rfl 52 #[.tmp 170, .tmp 171] #[99, 99] rfl #[.agg (rsg zS 0 vf).toArray, .agg zsig.toArray] (by simp [Act.eval]) (by go_simp) (same_zero vf X1 NX1) ?_
              rintro e X2 ⟨rfl, hB⟩
              have SX2 : Hid (Blk X2 w.heap.size 29 (w8 seed)) := Lib.hid (SX1.out.below hB SX1.out.lt)
              have DX2 : Hid (Blk X2 (w.heap.size + 1) 29 (w8 d)) := Lib.hid (DX1.out.below hB DX1.out.lt)
              have BX2 : Hid (Below w.heap.size w X2) := Lib.hid (BX1.out.trans (hB.mono BX1.out.size))
              have RX2 : Hid (RingAt X2 w.heap.size g seed tall tk v) := Lib.hid (RX1.out.below hB)
              have AX2 : Hid (Blk X2 ga 40 [.string firstText, .string roundText]) := Lib.hid (AX1.out.below hB AX1.out.lt)
              have OX2 : Hid (OutAt X2 w.heap.size (.slice (some ⟨go, 0, none⟩) (tall + 1) co) seed tall (tall + 1)) := Lib.hid (OX1.out.below hB)
              have TX2 : Hid (Blk X2 gk 4 (tkc tk (pw tall))) := Lib.hid (TX1.out.below hB TX1.out.lt)
              have ZX2 : Hid (Blk X2 gz 94 zsig) := Lib.hid (ZX1.out.below hB ZX1.out.lt)
              have KX2 : Hid (Blk X2 gx 99 zsig) := Lib.hid (KX1.out.below hB KX1.out.lt)
              have NX2 : Hid (WayR X2 vf zW 0) := Lib.hid (NX1.out.below hB)
              clear SX1 DX1 BX1 RX1 AX1 OX1 TX1 ZX1 KX1 NX1 hB
              refine ⟨_, rfl, hK.out _ _ (⟨ZX2.out, KX2.out, TX2.out⟩) (fun hHeld => ?_)⟩
              clear hK K
              show wpAnyH _ _ _ _ _ _ _ (Act.put _ (some 172) _) _
              simp only [Act.put, List.setIfInBounds_toArray, List.set_cons_zero, List.set_cons_succ]
              refine wpAnyH_take (i := 4) (v := .bool false) rfl (by kernel_rfl) (by kernel_rfl) (by kernel_rfl) (fun _ _ _ h => h) (Or.inl ⟨by rfl, by intro w' h; go_simp⟩) hHeld ?_
              show wpAnyH _ _ _ _ _ _ _ (Act.put _ (some 173) _) _
              simp only [Act.put, List.setIfInBounds_toArray, List.set_cons_zero, List.set_cons_succ]
              refine wpAnyH_take (i := 5) (v := .bool false) rfl (by kernel_rfl) (by kernel_rfl) (by kernel_rfl) (fun _ _ _ h => h) (Or.inl ⟨by rfl, fun w _ => by rfl⟩) hHeld ?_
              show wpAnyH _ _ _ _ _ _ _ (Act.put _ (some 174) _) _
              simp only [Act.put, List.setIfInBounds_toArray, List.set_cons_zero, List.set_cons_succ]
              refine wpAnyH_take (i := 6) (v := .pointer (some ⟨g, 0, none⟩)) rfl (by kernel_rfl) (by kernel_rfl) (by kernel_rfl) (fun _ _ _ h => h) (Or.inl ⟨by rfl, fun w _ => by rfl⟩) hHeld ?_
              show wpAnyH _ _ _ _ _ _ _ (Act.put _ (some 175) _) _
              simp only [Act.put, List.setIfInBounds_toArray, List.set_cons_zero, List.set_cons_succ]
              refine wpAnyH_take (i := 7) (v := .int .u32 (kn : Int)) rfl (by kernel_rfl) (by kernel_rfl) (by kernel_rfl) (fun _ _ _ h => h) (Or.inl ⟨by rfl, fun w _ => by rfl⟩) hHeld ?_
              show wpAnyH _ _ _ _ _ _ _ (Act.put _ (some 176) _) _
              simp only [Act.put, List.setIfInBounds_toArray, List.set_cons_zero, List.set_cons_succ]
              refine wpAnyH_take (i := 9) (v := .bool false) rfl (by kernel_rfl) (by kernel_rfl) (by kernel_rfl) (fun _ _ _ h => h) (Or.inl ⟨by rfl, fun w _ => by rfl⟩) hHeld ?_
              show wpAnyH _ _ _ _ _ _ _ (Act.put _ (some 178) _) _
              simp only [Act.put, List.setIfInBounds_toArray, List.set_cons_zero, List.set_cons_succ]
              refine wpAnyH_ready (rs := [8]) (by kernel_rfl) (by simp) ?_
              refine AllReadyH.cons rfl (fun K hK => ?_) AllReadyH.nil
              have hcT := taken_any g kn seed tall w.heap.size tk v X2 RX2 HK32.out
              rw [decide_eq_false hin, Bool.false_and] at hcT
              refine step_call rfl 54 #[.tmp 175, .tmp 176] #[84, 38] rfl #[.pointer (some ⟨g, 0, none⟩), .int .u32 (kn : Int)] (by simp [Act.eval]) (by go_simp) (hcT) ?_
              rintro e X3 ⟨rfl, hB⟩
              have SX3 : Hid (Blk X3 w.heap.size 29 (w8 seed)) := Lib.hid (SX2.out.below hB SX2.out.lt)
              have DX3 : Hid (Blk X3 (w.heap.size + 1) 29 (w8 d)) := Lib.hid (DX2.out.below hB DX2.out.lt)
              have BX3 : Hid (Below w.heap.size w X3) := Lib.hid (BX2.out.trans (hB.mono BX2.out.size))
              have RX3 : Hid (RingAt X3 w.heap.size g seed tall tk v) := Lib.hid (RX2.out.below hB)
              have AX3 : Hid (Blk X3 ga 40 [.string firstText, .string roundText]) := Lib.hid (AX2.out.below hB AX2.out.lt)
              have OX3 : Hid (OutAt X3 w.heap.size (.slice (some ⟨go, 0, none⟩) (tall + 1) co) seed tall (tall + 1)) := Lib.hid (OX2.out.below hB)
              have TX3 : Hid (Blk X3 gk 4 (tkc tk (pw tall))) := Lib.hid (TX2.out.below hB TX2.out.lt)
              have ZX3 : Hid (Blk X3 gz 94 zsig) := Lib.hid (ZX2.out.below hB ZX2.out.lt)
              have KX3 : Hid (Blk X3 gx 99 zsig) := Lib.hid (KX2.out.below hB KX2.out.lt)
              have NX3 : Hid (WayR X3 vf zW 0) := Lib.hid (NX2.out.below hB)
              clear SX2 DX2 BX2 RX2 AX2 OX2 TX2 ZX2 KX2 NX2 hB
              refine ⟨_, rfl, hK.out _ _ (⟨ZX3.out, KX3.out, TX3.out⟩) (fun hHeld => ?_)⟩
              clear hK K
              show wpAnyH _ _ _ _ _ _ _ (Act.put _ (some 177) _) _
              simp only [Act.put, List.setIfInBounds_toArray, List.set_cons_zero, List.set_cons_succ]
              refine wpAnyH_take (i := 10) (v := .bool false) rfl (by kernel_rfl) (by kernel_rfl) (by kernel_rfl) (fun _ _ _ h => h) (Or.inl ⟨by rfl, fun w _ => by rfl⟩) hHeld ?_
              show wpAnyH _ _ _ _ _ _ _ (Act.put _ (some 179) _) _
              simp only [Act.put, List.setIfInBounds_toArray, List.set_cons_zero, List.set_cons_succ]
              refine wpAnyH_take (i := 11) (v := undef) rfl (by kernel_rfl) (by kernel_rfl) (by kernel_rfl) (fun _ _ _ h => h) (Or.inr ⟨by rfl, rfl⟩) hHeld ?_
              show wpAnyH _ _ _ _ _ _ _ (Act.put _ (some 180) _) _
              simp only [Act.put, List.setIfInBounds_toArray, List.set_cons_zero, List.set_cons_succ]
              refine wpAnyH_take (i := 12) (v := undef) rfl (by kernel_rfl) (by kernel_rfl) (by kernel_rfl) (fun _ _ _ h => h) (Or.inr ⟨by rfl, rfl⟩) hHeld ?_
              show wpAnyH _ _ _ _ _ _ _ (Act.put _ (some 181) _) _
              simp only [Act.put, List.setIfInBounds_toArray, List.set_cons_zero, List.set_cons_succ]
              refine wpAnyH_take (i := 13) (v := undef) rfl (by kernel_rfl) (by kernel_rfl) (by kernel_rfl) (fun _ _ _ h => h) (Or.inr ⟨by rfl, rfl⟩) hHeld ?_
              show wpAnyH _ _ _ _ _ _ _ (Act.put _ (some 182) _) _
              simp only [Act.put, List.setIfInBounds_toArray, List.set_cons_zero, List.set_cons_succ]
              refine wpAnyH_take (i := 14) (v := undef) rfl (by kernel_rfl) (by kernel_rfl) (by kernel_rfl) (fun _ _ _ h => h) (Or.inr ⟨by rfl, rfl⟩) hHeld ?_
              show wpAnyH _ _ _ _ _ _ _ (Act.put _ (some 183) _) _
              simp only [Act.put, List.setIfInBounds_toArray, List.set_cons_zero, List.set_cons_succ]
              refine wpAnyH_take (i := 15) (v := .bool false) rfl (by kernel_rfl) (by kernel_rfl) (by kernel_rfl) (fun _ _ _ h => h) (Or.inl ⟨by rfl, by intro w hSw; first | rfl | go_simp⟩) hHeld ?_
              show wpAnyH _ _ _ _ _ _ _ (Act.put _ (some 184) _) _
              simp only [Act.put, List.setIfInBounds_toArray, List.set_cons_zero, List.set_cons_succ]
              refine wpAnyH_take (i := 16) (v := .bool false) rfl (by kernel_rfl) (by kernel_rfl) (by kernel_rfl) (fun _ _ _ h => h) (Or.inl ⟨by rfl, by intro w' h; go_simp⟩) hHeld ?_
              show wpAnyH _ _ _ _ _ _ _ (Act.put _ (some 185) _) _
              simp only [Act.put, List.setIfInBounds_toArray, List.set_cons_zero, List.set_cons_succ]
              refine wpAnyH_take (i := 17) (v := .bool false) rfl (by kernel_rfl) (by kernel_rfl) (by kernel_rfl) (fun _ _ _ h => h) (Or.inl ⟨by rfl, by intro w hSw; first | rfl | go_simp⟩) hHeld ?_
              show wpAnyH _ _ _ _ _ _ _ (Act.put _ (some 186) _) _
              simp only [Act.put, List.setIfInBounds_toArray, List.set_cons_zero, List.set_cons_succ]
              refine wpAnyH_done (by kernel_rfl) ?_ _
              clear hHeld
              go_wp2
              go_roundw
              case rel => exact ⟨n + 1, tk, by have := HLT.out; omega, by rw [show ((n + 1 : Nat) : Int) = x + 1 by have := HXN.out; omega], TX3, SX3, DX3, BX3, RX3, AX3, OX3⟩
              case measure => simp [intOf]; omega
          · have hm : (kd : Int).tmod 3 = 2 := by rw [hmd, h3]; rfl
            clear hmd h3
            by_cases hin : kn < pw tall
            · have hini : (kn : Int) < ((pw tall : Nat) : Int) := by omega
              have hkl : kn < tk.length := by omega
              by_cases htk : tk.getD kn false = true
              · skip
                have ck := (Bwr.out.cell (p := ⟨gK, oK + x.toNat, none⟩) hgK).trans hkc
                have hrg := Rwr.out.blk.lt
                go_upto_region 14 with fail
                go_upto_region 15 with fail
                go_upto_region 16 with fail
                go_upto_region 17 with fail
                clear ck
                have hB : Below wr.heap.size wr (wr.alloc (.cells Tryd.zeroCells94 94)) := (Below.refl _ _).alloc (Nat.le_refl _) _
                have hkz : gk < wr.heap.size := Twr.out.lt
                have SU1 : Hid (Blk (wr.alloc (.cells Tryd.zeroCells94 94)) w.heap.size 29 (w8 seed)) := Lib.hid (Swr.out.below hB Swr.out.lt)
                have DU1 : Hid (Blk (wr.alloc (.cells Tryd.zeroCells94 94)) (w.heap.size + 1) 29 (w8 d)) := Lib.hid (Dwr.out.below hB Dwr.out.lt)
                have BU1 : Hid (Below w.heap.size w (wr.alloc (.cells Tryd.zeroCells94 94))) := Lib.hid (Bwr.out.trans (hB.mono Bwr.out.size))
                have RU1 : Hid (RingAt (wr.alloc (.cells Tryd.zeroCells94 94)) w.heap.size g seed tall tk v) := Lib.hid (Rwr.out.below hB)
                have AU1 : Hid (Blk (wr.alloc (.cells Tryd.zeroCells94 94)) ga 40 [.string firstText, .string roundText]) := Lib.hid (Awr.out.below hB Awr.out.lt)
                have OU1 : Hid (OutAt (wr.alloc (.cells Tryd.zeroCells94 94)) w.heap.size (.slice (some ⟨go, 0, none⟩) (tall + 1) co) seed tall (tall + 1)) := Lib.hid (Owr.out.below hB)
                have TU1 : Hid (Blk (wr.alloc (.cells Tryd.zeroCells94 94)) gk 4 (tkc tk (pw tall))) := Lib.hid (Twr.out.below hB Twr.out.lt)
                have ZU1 : Hid (Blk (wr.alloc (.cells Tryd.zeroCells94 94)) wr.heap.size 94 zsig) := Lib.hid (by
                  have h := Blk.new wr 94 zsig
                  rw [zsig_arr] at h
                  exact h)
                clear hB Swr Dwr Bwr Rwr Awr Owr Twr
                generalize (wr.alloc (.cells Tryd.zeroCells94 94)) = U1 at SU1 DU1 BU1 RU1 AU1 OU1 TU1 ZU1 ⊢
                generalize wr.heap.size = gz at hkz hrg ZU1 ⊢
                have cb := (BU1.out.cell (p := ⟨gB, oB + x.toNat, none⟩) hgB).trans hbc
                go_wp2_with fail
                refine (spend_ok g kn seed tall w.heap.size tk v U1 RU1 hin).mono ?_
                rintro e U2 ⟨rfl, hR, hO⟩
                have hbk := RU1.out.blk
                have SU2 : Hid (Blk U2 w.heap.size 29 (w8 seed)) := Lib.hid (SU1.out.grown hO (fun e => by injection e with e; omega))
                have DU2 : Hid (Blk U2 (w.heap.size + 1) 29 (w8 d)) := Lib.hid (DU1.out.grown hO (fun e => by injection e with e; omega))
                have BU2 : Hid (Below w.heap.size w U2) := Lib.hid (BU1.out.trans (only_up hO (by omega) BU1.out.size))
                have AU2 : Hid (Blk U2 ga 40 [.string firstText, .string roundText]) := Lib.hid (AU1.out.grown hO (fun e => by injection e with e; omega))
                have OU2 : Hid (OutAt U2 w.heap.size (.slice (some ⟨go, 0, none⟩) (tall + 1) co) seed tall (tall + 1)) := Lib.hid (OU1.out.far hO hbk (by decide) (by decide))
                have TU2 : Hid (Blk U2 gk 4 (tkc tk (pw tall))) := Lib.hid (TU1.out.grown hO (fun e => by injection e with e; omega))
                have ZU2 : Hid (Blk U2 gz 94 zsig) := Lib.hid (ZU1.out.grown hO (fun e => by injection e with e; omega))
                clear SU1 DU1 BU1 AU1 OU1 TU1 ZU1
                have RU2 : Hid (RingAt U2 w.heap.size g seed tall (tk.set kn true) v) := Lib.hid (hR)
                clear hR hO hbk RU1 cb
                have ct : U2.cell? ⟨gk, kn, none⟩ = some (.bool true) := by rw [TU2.out.cell, tkc_get _ _ _ hin hlen, htk]
                have et : U2.frozen? ⟨gk, kn, none⟩ = false := TU2.out.frozen _
                go_upto_region 35 with fail
                have hO : U2.grownBy (U2.setCell ⟨gk, kn, none⟩ (.bool true)) (some gk) := only_setCell (only_refl _ _) (.inl rfl) _
                have hbk := TU2.out
                have SU3 : Hid (Blk (U2.setCell ⟨gk, kn, none⟩ (.bool true)) w.heap.size 29 (w8 seed)) := Lib.hid (SU2.out.grown hO (fun e => by injection e with e; omega))
                have DU3 : Hid (Blk (U2.setCell ⟨gk, kn, none⟩ (.bool true)) (w.heap.size + 1) 29 (w8 d)) := Lib.hid (DU2.out.grown hO (fun e => by injection e with e; omega))
                have BU3 : Hid (Below w.heap.size w (U2.setCell ⟨gk, kn, none⟩ (.bool true))) := Lib.hid (BU2.out.trans (only_up hO (by omega) BU2.out.size))
                have AU3 : Hid (Blk (U2.setCell ⟨gk, kn, none⟩ (.bool true)) ga 40 [.string firstText, .string roundText]) := Lib.hid (AU2.out.grown hO (fun e => by injection e with e; omega))
                have OU3 : Hid (OutAt (U2.setCell ⟨gk, kn, none⟩ (.bool true)) w.heap.size (.slice (some ⟨go, 0, none⟩) (tall + 1) co) seed tall (tall + 1)) := Lib.hid (OU2.out.far hO hbk (by decide) (by decide))
                have ZU3 : Hid (Blk (U2.setCell ⟨gk, kn, none⟩ (.bool true)) gz 94 zsig) := Lib.hid (ZU2.out.grown hO (fun e => by injection e with e; omega))
                have RU3 : Hid (RingAt (U2.setCell ⟨gk, kn, none⟩ (.bool true)) w.heap.size g seed tall (tk.set kn true) v) := Lib.hid (RU2.out.other hO hbk (by decide) (by decide) (by decide))
                have TU3 : Hid (Blk (U2.setCell ⟨gk, kn, none⟩ (.bool true)) gk 4 (tkc (tk.set kn true) (pw tall))) := Lib.hid (by
                  have h := TU2.out.set_ kn (.bool true)
                  rw [tkc_set] at h
                  exact h)
                clear hO hbk ct et SU2 DU2 BU2 AU2 OU2 TU2 ZU2 RU2
                generalize (U2.setCell ⟨gk, kn, none⟩ (.bool true)) = U3 at SU3 DU3 BU3 AU3 OU3 TU3 ZU3 RU3 ⊢
                have HL := Lib.hid (heap_alloc_last U3 (.cells Tryd.zeroCells99 99))
                go_upto_region 36 with (first | (refine wpList_store_row rfl 99 (.tmp 22) (.tmp 151) rfl U3.heap.size zsig.toArray rfl (congrArg Value.agg zsig_arr9.symm) 99 _ HL.out HS9.out HZ9.out HO9.out ?_; rw [World.setRow_alloc_new]))
                have hB : Below U3.heap.size U3 (U3.alloc (.cells zsig.toArray 99)) := (Below.refl _ _).alloc (Nat.le_refl _) _
                have SU4 : Hid (Blk (U3.alloc (.cells zsig.toArray 99)) w.heap.size 29 (w8 seed)) := Lib.hid (SU3.out.below hB SU3.out.lt)
                have DU4 : Hid (Blk (U3.alloc (.cells zsig.toArray 99)) (w.heap.size + 1) 29 (w8 d)) := Lib.hid (DU3.out.below hB DU3.out.lt)
                have BU4 : Hid (Below w.heap.size w (U3.alloc (.cells zsig.toArray 99))) := Lib.hid (BU3.out.trans (hB.mono BU3.out.size))
                have AU4 : Hid (Blk (U3.alloc (.cells zsig.toArray 99)) ga 40 [.string firstText, .string roundText]) := Lib.hid (AU3.out.below hB AU3.out.lt)
                have OU4 : Hid (OutAt (U3.alloc (.cells zsig.toArray 99)) w.heap.size (.slice (some ⟨go, 0, none⟩) (tall + 1) co) seed tall (tall + 1)) := Lib.hid (OU3.out.below hB)
                have TU4 : Hid (Blk (U3.alloc (.cells zsig.toArray 99)) gk 4 (tkc (tk.set kn true) (pw tall))) := Lib.hid (TU3.out.below hB TU3.out.lt)
                have ZU4 : Hid (Blk (U3.alloc (.cells zsig.toArray 99)) gz 94 zsig) := Lib.hid (ZU3.out.below hB ZU3.out.lt)
                have RU4 : Hid (RingAt (U3.alloc (.cells zsig.toArray 99)) w.heap.size g seed tall (tk.set kn true) v) := Lib.hid (RU3.out.below hB)
                have KU4 : Hid (Blk (U3.alloc (.cells zsig.toArray 99)) U3.heap.size 99 zsig) := Lib.hid (Blk.new _ _ _)
                have HKX : Hid (gz < U3.heap.size) := Lib.hid ZU3.out.lt
                clear hB HL SU3 DU3 BU3 AU3 OU3 TU3 ZU3 RU3
                generalize (U3.alloc (.cells zsig.toArray 99)) = U4 at SU4 DU4 BU4 AU4 OU4 TU4 ZU4 RU4 KU4 ⊢
                generalize U3.heap.size = gx at KU4 HKX ⊢
                have hzx := HKX.out
                have cb := (BU4.out.cell (p := ⟨gB, oB + x.toNat, none⟩) hgB).trans hbc
                go_upto_region 38 with fail
                clear cb
                have hBz : Below U4.heap.size U4 U4.drew := below_drewN (Below.refl _ _) 1
                have SX0 : Hid (Blk U4.drew w.heap.size 29 (w8 seed)) := Lib.hid (SU4.out.below hBz SU4.out.lt)
                have DX0 : Hid (Blk U4.drew (w.heap.size + 1) 29 (w8 d)) := Lib.hid (DU4.out.below hBz DU4.out.lt)
                have BX0 : Hid (Below w.heap.size w U4.drew) := Lib.hid (BU4.out.trans (hBz.mono BU4.out.size))
                have AX0 : Hid (Blk U4.drew ga 40 [.string firstText, .string roundText]) := Lib.hid (AU4.out.below hBz AU4.out.lt)
                have OX0 : Hid (OutAt U4.drew w.heap.size (.slice (some ⟨go, 0, none⟩) (tall + 1) co) seed tall (tall + 1)) := Lib.hid (OU4.out.below hBz)
                have TX0 : Hid (Blk U4.drew gk 4 (tkc (tk.set kn true) (pw tall))) := Lib.hid (TU4.out.below hBz TU4.out.lt)
                have ZX0 : Hid (Blk U4.drew gz 94 zsig) := Lib.hid (ZU4.out.below hBz ZU4.out.lt)
                have RX0 : Hid (RingAt U4.drew w.heap.size g seed tall (tk.set kn true) v) := Lib.hid (RU4.out.below hBz)
                have KX0 : Hid (Blk U4.drew gx 99 zsig) := Lib.hid (KU4.out.below hBz KU4.out.lt)
                clear hBz
                refine wp_region_held_drew (S := fun w' => Blk w' gz 94 zsig ∧ Blk w' gx 99 zsig ∧ Blk w' gk 4 (tkc (tk.set kn true) (pw tall))) (by kernel_rfl) (⟨ZX0.out, KX0.out, TX0.out⟩) (fun hHeld => ?_)
                generalize U4.drew = X0 at hHeld SX0 DX0 BX0 AX0 OX0 TX0 ZX0 RX0 KX0 ⊢
                refine wpAnyH_take (i := 0) (v := .agg zsig.toArray) rfl (by kernel_rfl) (by kernel_rfl) (by kernel_rfl) (fun _ _ _ h => h) (yieldsIf_load_mid rfl 94 (.tmp 19) rfl gz 0 rfl zsig _ (fun w' h => Blk.all h.1) Tryd.underlying94 rfl (by rw [zsig_length]; exact info94)) hHeld ?_
                show wpAnyH _ _ _ _ _ _ _ (Act.put _ (some 169) _) _
                simp only [Act.put, List.setIfInBounds_toArray, List.set_cons_zero, List.set_cons_succ]
                refine wpAnyH_take (i := 2) (v := .agg zsig.toArray) rfl (by kernel_rfl) (by kernel_rfl) (by kernel_rfl) (fun _ _ _ h => h) (yieldsIf_load_mid rfl 99 (.tmp 22) rfl gx 0 rfl zsig _ (fun w' h => Blk.all h.2.1) Tryd.underlying99 rfl (by rw [zsig_length]; exact info99)) hHeld ?_
                show wpAnyH _ _ _ _ _ _ _ (Act.put _ (some 171) _) _
                simp only [Act.put, List.setIfInBounds_toArray, List.set_cons_zero, List.set_cons_succ]
                refine wpAnyH_ready (rs := [1]) (by kernel_rfl) (by simp) ?_
                refine AllReadyH.cons rfl (fun K hK => ?_) AllReadyH.nil
                refine step_call rfl 53 #[.tmp 169] #[94] rfl #[.agg zsig.toArray] (by simp [Act.eval]) (by go_simp) (from_zero X0) ?_
                rintro e X1 ⟨vf, rfl, hwf, hB⟩
                have SX1 : Hid (Blk X1 w.heap.size 29 (w8 seed)) := Lib.hid (SX0.out.below hB SX0.out.lt)
                have DX1 : Hid (Blk X1 (w.heap.size + 1) 29 (w8 d)) := Lib.hid (DX0.out.below hB DX0.out.lt)
                have BX1 : Hid (Below w.heap.size w X1) := Lib.hid (BX0.out.trans (hB.mono BX0.out.size))
                have AX1 : Hid (Blk X1 ga 40 [.string firstText, .string roundText]) := Lib.hid (AX0.out.below hB AX0.out.lt)
                have OX1 : Hid (OutAt X1 w.heap.size (.slice (some ⟨go, 0, none⟩) (tall + 1) co) seed tall (tall + 1)) := Lib.hid (OX0.out.below hB)
                have TX1 : Hid (Blk X1 gk 4 (tkc (tk.set kn true) (pw tall))) := Lib.hid (TX0.out.below hB TX0.out.lt)
                have ZX1 : Hid (Blk X1 gz 94 zsig) := Lib.hid (ZX0.out.below hB ZX0.out.lt)
                have RX1 : Hid (RingAt X1 w.heap.size g seed tall (tk.set kn true) v) := Lib.hid (RX0.out.below hB)
                have KX1 : Hid (Blk X1 gx 99 zsig) := Lib.hid (KX0.out.below hB KX0.out.lt)
                have NX1 : Hid (WayR X1 vf zW 0) := Lib.hid (hwf)
                clear SX0 DX0 BX0 AX0 OX0 TX0 ZX0 RX0 KX0 hB hwf
                refine ⟨_, rfl, hK.out _ _ (⟨ZX1.out, KX1.out, TX1.out⟩) (fun hHeld => ?_)⟩
                clear hK K
                show wpAnyH _ _ _ _ _ _ _ (Act.put _ (some 170) _) _
                simp only [Act.put, List.setIfInBounds_toArray, List.set_cons_zero, List.set_cons_succ]
                refine wpAnyH_ready (rs := [3]) (by kernel_rfl) (by simp) ?_
                refine AllReadyH.cons rfl (fun K hK => ?_) AllReadyH.nil
                refine step_call rfl 52 #[.tmp 170, .tmp 171] #[99, 99] rfl #[.agg (rsg zS 0 vf).toArray, .agg zsig.toArray] (by simp [Act.eval]) (by go_simp) (same_zero vf X1 NX1) ?_
                rintro e X2 ⟨rfl, hB⟩
                have SX2 : Hid (Blk X2 w.heap.size 29 (w8 seed)) := Lib.hid (SX1.out.below hB SX1.out.lt)
                have DX2 : Hid (Blk X2 (w.heap.size + 1) 29 (w8 d)) := Lib.hid (DX1.out.below hB DX1.out.lt)
                have BX2 : Hid (Below w.heap.size w X2) := Lib.hid (BX1.out.trans (hB.mono BX1.out.size))
                have AX2 : Hid (Blk X2 ga 40 [.string firstText, .string roundText]) := Lib.hid (AX1.out.below hB AX1.out.lt)
                have OX2 : Hid (OutAt X2 w.heap.size (.slice (some ⟨go, 0, none⟩) (tall + 1) co) seed tall (tall + 1)) := Lib.hid (OX1.out.below hB)
                have TX2 : Hid (Blk X2 gk 4 (tkc (tk.set kn true) (pw tall))) := Lib.hid (TX1.out.below hB TX1.out.lt)
                have ZX2 : Hid (Blk X2 gz 94 zsig) := Lib.hid (ZX1.out.below hB ZX1.out.lt)
                have RX2 : Hid (RingAt X2 w.heap.size g seed tall (tk.set kn true) v) := Lib.hid (RX1.out.below hB)
                have KX2 : Hid (Blk X2 gx 99 zsig) := Lib.hid (KX1.out.below hB KX1.out.lt)
                have NX2 : Hid (WayR X2 vf zW 0) := Lib.hid (NX1.out.below hB)
                clear SX1 DX1 BX1 AX1 OX1 TX1 ZX1 RX1 KX1 NX1 hB
                refine ⟨_, rfl, hK.out _ _ (⟨ZX2.out, KX2.out, TX2.out⟩) (fun hHeld => ?_)⟩
                clear hK K
                show wpAnyH _ _ _ _ _ _ _ (Act.put _ (some 172) _) _
                simp only [Act.put, List.setIfInBounds_toArray, List.set_cons_zero, List.set_cons_succ]
                refine wpAnyH_take (i := 4) (v := .bool false) rfl (by kernel_rfl) (by kernel_rfl) (by kernel_rfl) (fun _ _ _ h => h) (Or.inl ⟨by rfl, by intro w' h; go_simp⟩) hHeld ?_
                show wpAnyH _ _ _ _ _ _ _ (Act.put _ (some 173) _) _
                simp only [Act.put, List.setIfInBounds_toArray, List.set_cons_zero, List.set_cons_succ]
                refine wpAnyH_take (i := 5) (v := .bool false) rfl (by kernel_rfl) (by kernel_rfl) (by kernel_rfl) (fun _ _ _ h => h) (Or.inl ⟨by rfl, fun w _ => by rfl⟩) hHeld ?_
                show wpAnyH _ _ _ _ _ _ _ (Act.put _ (some 174) _) _
                simp only [Act.put, List.setIfInBounds_toArray, List.set_cons_zero, List.set_cons_succ]
                refine wpAnyH_take (i := 6) (v := .pointer (some ⟨g, 0, none⟩)) rfl (by kernel_rfl) (by kernel_rfl) (by kernel_rfl) (fun _ _ _ h => h) (Or.inl ⟨by rfl, fun w _ => by rfl⟩) hHeld ?_
                show wpAnyH _ _ _ _ _ _ _ (Act.put _ (some 175) _) _
                simp only [Act.put, List.setIfInBounds_toArray, List.set_cons_zero, List.set_cons_succ]
                refine wpAnyH_take (i := 7) (v := .int .u32 (kn : Int)) rfl (by kernel_rfl) (by kernel_rfl) (by kernel_rfl) (fun _ _ _ h => h) (Or.inl ⟨by rfl, fun w _ => by rfl⟩) hHeld ?_
                show wpAnyH _ _ _ _ _ _ _ (Act.put _ (some 176) _) _
                simp only [Act.put, List.setIfInBounds_toArray, List.set_cons_zero, List.set_cons_succ]
                refine wpAnyH_take (i := 9) (v := .bool true) rfl (by kernel_rfl) (by kernel_rfl) (by kernel_rfl) (fun _ _ _ h => h) (Or.inl ⟨by rfl, fun w _ => by rfl⟩) hHeld ?_
                show wpAnyH _ _ _ _ _ _ _ (Act.put _ (some 178) _) _
                simp only [Act.put, List.setIfInBounds_toArray, List.set_cons_zero, List.set_cons_succ]
                refine wpAnyH_ready (rs := [8]) (by kernel_rfl) (by simp) ?_
                refine AllReadyH.cons rfl (fun K hK => ?_) AllReadyH.nil
                have hcT := taken_any g kn seed tall w.heap.size (tk.set kn true) v X2 RX2 HK32.out
                rw [decide_eq_true hin, set_got tk kn hkl, Bool.true_and] at hcT
                refine step_call rfl 54 #[.tmp 175, .tmp 176] #[84, 38] rfl #[.pointer (some ⟨g, 0, none⟩), .int .u32 (kn : Int)] (by simp [Act.eval]) (by go_simp) (hcT) ?_
                rintro e X3 ⟨rfl, hB⟩
                have SX3 : Hid (Blk X3 w.heap.size 29 (w8 seed)) := Lib.hid (SX2.out.below hB SX2.out.lt)
                have DX3 : Hid (Blk X3 (w.heap.size + 1) 29 (w8 d)) := Lib.hid (DX2.out.below hB DX2.out.lt)
                have BX3 : Hid (Below w.heap.size w X3) := Lib.hid (BX2.out.trans (hB.mono BX2.out.size))
                have AX3 : Hid (Blk X3 ga 40 [.string firstText, .string roundText]) := Lib.hid (AX2.out.below hB AX2.out.lt)
                have OX3 : Hid (OutAt X3 w.heap.size (.slice (some ⟨go, 0, none⟩) (tall + 1) co) seed tall (tall + 1)) := Lib.hid (OX2.out.below hB)
                have TX3 : Hid (Blk X3 gk 4 (tkc (tk.set kn true) (pw tall))) := Lib.hid (TX2.out.below hB TX2.out.lt)
                have ZX3 : Hid (Blk X3 gz 94 zsig) := Lib.hid (ZX2.out.below hB ZX2.out.lt)
                have RX3 : Hid (RingAt X3 w.heap.size g seed tall (tk.set kn true) v) := Lib.hid (RX2.out.below hB)
                have KX3 : Hid (Blk X3 gx 99 zsig) := Lib.hid (KX2.out.below hB KX2.out.lt)
                have NX3 : Hid (WayR X3 vf zW 0) := Lib.hid (NX2.out.below hB)
                clear SX2 DX2 BX2 AX2 OX2 TX2 ZX2 RX2 KX2 NX2 hB
                refine ⟨_, rfl, hK.out _ _ (⟨ZX3.out, KX3.out, TX3.out⟩) (fun hHeld => ?_)⟩
                clear hK K
                show wpAnyH _ _ _ _ _ _ _ (Act.put _ (some 177) _) _
                simp only [Act.put, List.setIfInBounds_toArray, List.set_cons_zero, List.set_cons_succ]
                refine wpAnyH_take (i := 10) (v := .bool true) rfl (by kernel_rfl) (by kernel_rfl) (by kernel_rfl) (fun _ _ _ h => h) (Or.inl ⟨by rfl, fun w _ => by rfl⟩) hHeld ?_
                show wpAnyH _ _ _ _ _ _ _ (Act.put _ (some 179) _) _
                simp only [Act.put, List.setIfInBounds_toArray, List.set_cons_zero, List.set_cons_succ]
                refine wpAnyH_take (i := 11) (v := .slice (some ⟨gk, 0, none⟩) (pw tall) (pw tall)) rfl (by kernel_rfl) (by kernel_rfl) (by kernel_rfl) (fun _ _ _ h => h) (Or.inl ⟨by rfl, fun w _ => by rfl⟩) hHeld ?_
                show wpAnyH _ _ _ _ _ _ _ (Act.put _ (some 180) _) _
                simp only [Act.put, List.setIfInBounds_toArray, List.set_cons_zero, List.set_cons_succ]
                refine wpAnyH_take (i := 12) (v := .int .u32 (kn : Int)) rfl (by kernel_rfl) (by kernel_rfl) (by kernel_rfl) (fun _ _ _ h => h) (Or.inl ⟨by rfl, fun w _ => by rfl⟩) hHeld ?_
                show wpAnyH _ _ _ _ _ _ _ (Act.put _ (some 181) _) _
                simp only [Act.put, List.setIfInBounds_toArray, List.set_cons_zero, List.set_cons_succ]
                refine wpAnyH_take (i := 13) (v := .pointer (some ⟨gk, kn, none⟩)) rfl (by kernel_rfl) (by kernel_rfl) (by kernel_rfl) (fun _ _ _ h => h) (Or.inl ⟨by rfl, by intro w' h; go_simp⟩) hHeld ?_
                show wpAnyH _ _ _ _ _ _ _ (Act.put _ (some 182) _) _
                simp only [Act.put, List.setIfInBounds_toArray, List.set_cons_zero, List.set_cons_succ]
                refine wpAnyH_take (i := 14) (v := .bool true) rfl (by kernel_rfl) (by kernel_rfl) (by kernel_rfl) (fun _ _ _ h => h) (Or.inl ⟨by rfl, by intro w' h; have q9 := h.2.2.cell kn; rw [tkc_get _ _ _ hin (by simp [hl256]; omega), set_got tk kn hkl] at q9; go_simp⟩) hHeld ?_
                show wpAnyH _ _ _ _ _ _ _ (Act.put _ (some 183) _) _
                simp only [Act.put, List.setIfInBounds_toArray, List.set_cons_zero, List.set_cons_succ]
                refine wpAnyH_take (i := 15) (v := .bool true) rfl (by kernel_rfl) (by kernel_rfl) (by kernel_rfl) (fun _ _ _ h => h) (Or.inl ⟨by rfl, by intro w hSw; first | rfl | go_simp⟩) hHeld ?_
                show wpAnyH _ _ _ _ _ _ _ (Act.put _ (some 184) _) _
                simp only [Act.put, List.setIfInBounds_toArray, List.set_cons_zero, List.set_cons_succ]
                refine wpAnyH_take (i := 16) (v := .bool false) rfl (by kernel_rfl) (by kernel_rfl) (by kernel_rfl) (fun _ _ _ h => h) (Or.inl ⟨by rfl, by intro w' h; go_simp⟩) hHeld ?_
                show wpAnyH _ _ _ _ _ _ _ (Act.put _ (some 185) _) _
                simp only [Act.put, List.setIfInBounds_toArray, List.set_cons_zero, List.set_cons_succ]
                refine wpAnyH_take (i := 17) (v := .bool false) rfl (by kernel_rfl) (by kernel_rfl) (by kernel_rfl) (fun _ _ _ h => h) (Or.inl ⟨by rfl, by intro w hSw; first | rfl | go_simp⟩) hHeld ?_
                show wpAnyH _ _ _ _ _ _ _ (Act.put _ (some 186) _) _
                simp only [Act.put, List.setIfInBounds_toArray, List.set_cons_zero, List.set_cons_succ]
                refine wpAnyH_done (by kernel_rfl) ?_ _
                clear hHeld
                go_wp2
                go_roundw
                case rel => exact ⟨n + 1, (tk.set kn true), by have := HLT.out; omega, by rw [show ((n + 1 : Nat) : Int) = x + 1 by have := HXN.out; omega], TX3, SX3, DX3, BX3, RX3, AX3, OX3⟩
                case measure => simp [intOf]; omega
              · replace htk : tk.getD kn false = false := by simpa using htk
                have ck := (Bwr.out.cell (p := ⟨gK, oK + x.toNat, none⟩) hgK).trans hkc
                have hrg := Rwr.out.blk.lt
                go_upto_region 14 with fail
                go_upto_region 15 with fail
                go_upto_region 16 with fail
                go_upto_region 17 with fail
                clear ck
                have hB : Below wr.heap.size wr (wr.alloc (.cells Tryd.zeroCells94 94)) := (Below.refl _ _).alloc (Nat.le_refl _) _
                have hkz : gk < wr.heap.size := Twr.out.lt
                have SU1 : Hid (Blk (wr.alloc (.cells Tryd.zeroCells94 94)) w.heap.size 29 (w8 seed)) := Lib.hid (Swr.out.below hB Swr.out.lt)
                have DU1 : Hid (Blk (wr.alloc (.cells Tryd.zeroCells94 94)) (w.heap.size + 1) 29 (w8 d)) := Lib.hid (Dwr.out.below hB Dwr.out.lt)
                have BU1 : Hid (Below w.heap.size w (wr.alloc (.cells Tryd.zeroCells94 94))) := Lib.hid (Bwr.out.trans (hB.mono Bwr.out.size))
                have RU1 : Hid (RingAt (wr.alloc (.cells Tryd.zeroCells94 94)) w.heap.size g seed tall tk v) := Lib.hid (Rwr.out.below hB)
                have AU1 : Hid (Blk (wr.alloc (.cells Tryd.zeroCells94 94)) ga 40 [.string firstText, .string roundText]) := Lib.hid (Awr.out.below hB Awr.out.lt)
                have OU1 : Hid (OutAt (wr.alloc (.cells Tryd.zeroCells94 94)) w.heap.size (.slice (some ⟨go, 0, none⟩) (tall + 1) co) seed tall (tall + 1)) := Lib.hid (Owr.out.below hB)
                have TU1 : Hid (Blk (wr.alloc (.cells Tryd.zeroCells94 94)) gk 4 (tkc tk (pw tall))) := Lib.hid (Twr.out.below hB Twr.out.lt)
                have ZU1 : Hid (Blk (wr.alloc (.cells Tryd.zeroCells94 94)) wr.heap.size 94 zsig) := Lib.hid (by
                  have h := Blk.new wr 94 zsig
                  rw [zsig_arr] at h
                  exact h)
                clear hB Swr Dwr Bwr Rwr Awr Owr Twr
                generalize (wr.alloc (.cells Tryd.zeroCells94 94)) = U1 at SU1 DU1 BU1 RU1 AU1 OU1 TU1 ZU1 ⊢
                generalize wr.heap.size = gz at hkz hrg ZU1 ⊢
                have cb := (BU1.out.cell (p := ⟨gB, oB + x.toNat, none⟩) hgB).trans hbc
                go_wp2_with fail
                refine (spend_ok g kn seed tall w.heap.size tk v U1 RU1 hin).mono ?_
                rintro e U2 ⟨rfl, hR, hO⟩
                have hbk := RU1.out.blk
                have SU2 : Hid (Blk U2 w.heap.size 29 (w8 seed)) := Lib.hid (SU1.out.grown hO (fun e => by injection e with e; omega))
                have DU2 : Hid (Blk U2 (w.heap.size + 1) 29 (w8 d)) := Lib.hid (DU1.out.grown hO (fun e => by injection e with e; omega))
                have BU2 : Hid (Below w.heap.size w U2) := Lib.hid (BU1.out.trans (only_up hO (by omega) BU1.out.size))
                have AU2 : Hid (Blk U2 ga 40 [.string firstText, .string roundText]) := Lib.hid (AU1.out.grown hO (fun e => by injection e with e; omega))
                have OU2 : Hid (OutAt U2 w.heap.size (.slice (some ⟨go, 0, none⟩) (tall + 1) co) seed tall (tall + 1)) := Lib.hid (OU1.out.far hO hbk (by decide) (by decide))
                have TU2 : Hid (Blk U2 gk 4 (tkc tk (pw tall))) := Lib.hid (TU1.out.grown hO (fun e => by injection e with e; omega))
                have ZU2 : Hid (Blk U2 gz 94 zsig) := Lib.hid (ZU1.out.grown hO (fun e => by injection e with e; omega))
                clear SU1 DU1 BU1 AU1 OU1 TU1 ZU1
                have RU2 : Hid (RingAt U2 w.heap.size g seed tall (tk.set kn true) v) := Lib.hid (hR)
                clear hR hO hbk RU1 cb
                have ct : U2.cell? ⟨gk, kn, none⟩ = some (.bool false) := by rw [TU2.out.cell, tkc_get _ _ _ hin hlen, htk]
                have et : U2.frozen? ⟨gk, kn, none⟩ = false := TU2.out.frozen _
                go_upto_region 35 with fail
                have hO : U2.grownBy (U2.setCell ⟨gk, kn, none⟩ (.bool true)) (some gk) := only_setCell (only_refl _ _) (.inl rfl) _
                have hbk := TU2.out
                have SU3 : Hid (Blk (U2.setCell ⟨gk, kn, none⟩ (.bool true)) w.heap.size 29 (w8 seed)) := Lib.hid (SU2.out.grown hO (fun e => by injection e with e; omega))
                have DU3 : Hid (Blk (U2.setCell ⟨gk, kn, none⟩ (.bool true)) (w.heap.size + 1) 29 (w8 d)) := Lib.hid (DU2.out.grown hO (fun e => by injection e with e; omega))
                have BU3 : Hid (Below w.heap.size w (U2.setCell ⟨gk, kn, none⟩ (.bool true))) := Lib.hid (BU2.out.trans (only_up hO (by omega) BU2.out.size))
                have AU3 : Hid (Blk (U2.setCell ⟨gk, kn, none⟩ (.bool true)) ga 40 [.string firstText, .string roundText]) := Lib.hid (AU2.out.grown hO (fun e => by injection e with e; omega))
                have OU3 : Hid (OutAt (U2.setCell ⟨gk, kn, none⟩ (.bool true)) w.heap.size (.slice (some ⟨go, 0, none⟩) (tall + 1) co) seed tall (tall + 1)) := Lib.hid (OU2.out.far hO hbk (by decide) (by decide))
                have ZU3 : Hid (Blk (U2.setCell ⟨gk, kn, none⟩ (.bool true)) gz 94 zsig) := Lib.hid (ZU2.out.grown hO (fun e => by injection e with e; omega))
                have RU3 : Hid (RingAt (U2.setCell ⟨gk, kn, none⟩ (.bool true)) w.heap.size g seed tall (tk.set kn true) v) := Lib.hid (RU2.out.other hO hbk (by decide) (by decide) (by decide))
                have TU3 : Hid (Blk (U2.setCell ⟨gk, kn, none⟩ (.bool true)) gk 4 (tkc (tk.set kn true) (pw tall))) := Lib.hid (by
                  have h := TU2.out.set_ kn (.bool true)
                  rw [tkc_set] at h
                  exact h)
                clear hO hbk ct et SU2 DU2 BU2 AU2 OU2 TU2 ZU2 RU2
                generalize (U2.setCell ⟨gk, kn, none⟩ (.bool true)) = U3 at SU3 DU3 BU3 AU3 OU3 TU3 ZU3 RU3 ⊢
                have HL := Lib.hid (heap_alloc_last U3 (.cells Tryd.zeroCells99 99))
                go_upto_region 36 with (first | (refine wpList_store_row rfl 99 (.tmp 22) (.tmp 151) rfl U3.heap.size zsig.toArray rfl (congrArg Value.agg zsig_arr9.symm) 99 _ HL.out HS9.out HZ9.out HO9.out ?_; rw [World.setRow_alloc_new]))
                have hB : Below U3.heap.size U3 (U3.alloc (.cells zsig.toArray 99)) := (Below.refl _ _).alloc (Nat.le_refl _) _
                have SU4 : Hid (Blk (U3.alloc (.cells zsig.toArray 99)) w.heap.size 29 (w8 seed)) := Lib.hid (SU3.out.below hB SU3.out.lt)
                have DU4 : Hid (Blk (U3.alloc (.cells zsig.toArray 99)) (w.heap.size + 1) 29 (w8 d)) := Lib.hid (DU3.out.below hB DU3.out.lt)
                have BU4 : Hid (Below w.heap.size w (U3.alloc (.cells zsig.toArray 99))) := Lib.hid (BU3.out.trans (hB.mono BU3.out.size))
                have AU4 : Hid (Blk (U3.alloc (.cells zsig.toArray 99)) ga 40 [.string firstText, .string roundText]) := Lib.hid (AU3.out.below hB AU3.out.lt)
                have OU4 : Hid (OutAt (U3.alloc (.cells zsig.toArray 99)) w.heap.size (.slice (some ⟨go, 0, none⟩) (tall + 1) co) seed tall (tall + 1)) := Lib.hid (OU3.out.below hB)
                have TU4 : Hid (Blk (U3.alloc (.cells zsig.toArray 99)) gk 4 (tkc (tk.set kn true) (pw tall))) := Lib.hid (TU3.out.below hB TU3.out.lt)
                have ZU4 : Hid (Blk (U3.alloc (.cells zsig.toArray 99)) gz 94 zsig) := Lib.hid (ZU3.out.below hB ZU3.out.lt)
                have RU4 : Hid (RingAt (U3.alloc (.cells zsig.toArray 99)) w.heap.size g seed tall (tk.set kn true) v) := Lib.hid (RU3.out.below hB)
                have KU4 : Hid (Blk (U3.alloc (.cells zsig.toArray 99)) U3.heap.size 99 zsig) := Lib.hid (Blk.new _ _ _)
                have HKX : Hid (gz < U3.heap.size) := Lib.hid ZU3.out.lt
                clear hB HL SU3 DU3 BU3 AU3 OU3 TU3 ZU3 RU3
                generalize (U3.alloc (.cells zsig.toArray 99)) = U4 at SU4 DU4 BU4 AU4 OU4 TU4 ZU4 RU4 KU4 ⊢
                generalize U3.heap.size = gx at KU4 HKX ⊢
                have hzx := HKX.out
                have cb := (BU4.out.cell (p := ⟨gB, oB + x.toNat, none⟩) hgB).trans hbc
                go_upto_region 38 with fail
                clear cb
                have hBz : Below U4.heap.size U4 U4.drew := below_drewN (Below.refl _ _) 1
                have SX0 : Hid (Blk U4.drew w.heap.size 29 (w8 seed)) := Lib.hid (SU4.out.below hBz SU4.out.lt)
                have DX0 : Hid (Blk U4.drew (w.heap.size + 1) 29 (w8 d)) := Lib.hid (DU4.out.below hBz DU4.out.lt)
                have BX0 : Hid (Below w.heap.size w U4.drew) := Lib.hid (BU4.out.trans (hBz.mono BU4.out.size))
                have AX0 : Hid (Blk U4.drew ga 40 [.string firstText, .string roundText]) := Lib.hid (AU4.out.below hBz AU4.out.lt)
                have OX0 : Hid (OutAt U4.drew w.heap.size (.slice (some ⟨go, 0, none⟩) (tall + 1) co) seed tall (tall + 1)) := Lib.hid (OU4.out.below hBz)
                have TX0 : Hid (Blk U4.drew gk 4 (tkc (tk.set kn true) (pw tall))) := Lib.hid (TU4.out.below hBz TU4.out.lt)
                have ZX0 : Hid (Blk U4.drew gz 94 zsig) := Lib.hid (ZU4.out.below hBz ZU4.out.lt)
                have RX0 : Hid (RingAt U4.drew w.heap.size g seed tall (tk.set kn true) v) := Lib.hid (RU4.out.below hBz)
                have KX0 : Hid (Blk U4.drew gx 99 zsig) := Lib.hid (KU4.out.below hBz KU4.out.lt)
                clear hBz
                refine wp_region_held_drew (S := fun w' => Blk w' gz 94 zsig ∧ Blk w' gx 99 zsig ∧ Blk w' gk 4 (tkc (tk.set kn true) (pw tall))) (by kernel_rfl) (⟨ZX0.out, KX0.out, TX0.out⟩) (fun hHeld => ?_)
                generalize U4.drew = X0 at hHeld SX0 DX0 BX0 AX0 OX0 TX0 ZX0 RX0 KX0 ⊢
                refine wpAnyH_take (i := 0) (v := .agg zsig.toArray) rfl (by kernel_rfl) (by kernel_rfl) (by kernel_rfl) (fun _ _ _ h => h) (yieldsIf_load_mid rfl 94 (.tmp 19) rfl gz 0 rfl zsig _ (fun w' h => Blk.all h.1) Tryd.underlying94 rfl (by rw [zsig_length]; exact info94)) hHeld ?_
                show wpAnyH _ _ _ _ _ _ _ (Act.put _ (some 169) _) _
                simp only [Act.put, List.setIfInBounds_toArray, List.set_cons_zero, List.set_cons_succ]
                refine wpAnyH_take (i := 2) (v := .agg zsig.toArray) rfl (by kernel_rfl) (by kernel_rfl) (by kernel_rfl) (fun _ _ _ h => h) (yieldsIf_load_mid rfl 99 (.tmp 22) rfl gx 0 rfl zsig _ (fun w' h => Blk.all h.2.1) Tryd.underlying99 rfl (by rw [zsig_length]; exact info99)) hHeld ?_
                show wpAnyH _ _ _ _ _ _ _ (Act.put _ (some 171) _) _
                simp only [Act.put, List.setIfInBounds_toArray, List.set_cons_zero, List.set_cons_succ]
                refine wpAnyH_ready (rs := [1]) (by kernel_rfl) (by simp) ?_
                refine AllReadyH.cons rfl (fun K hK => ?_) AllReadyH.nil
                refine step_call rfl 53 #[.tmp 169] #[94] rfl #[.agg zsig.toArray] (by simp [Act.eval]) (by go_simp) (from_zero X0) ?_
                rintro e X1 ⟨vf, rfl, hwf, hB⟩
                have SX1 : Hid (Blk X1 w.heap.size 29 (w8 seed)) := Lib.hid (SX0.out.below hB SX0.out.lt)
                have DX1 : Hid (Blk X1 (w.heap.size + 1) 29 (w8 d)) := Lib.hid (DX0.out.below hB DX0.out.lt)
                have BX1 : Hid (Below w.heap.size w X1) := Lib.hid (BX0.out.trans (hB.mono BX0.out.size))
                have AX1 : Hid (Blk X1 ga 40 [.string firstText, .string roundText]) := Lib.hid (AX0.out.below hB AX0.out.lt)
                have OX1 : Hid (OutAt X1 w.heap.size (.slice (some ⟨go, 0, none⟩) (tall + 1) co) seed tall (tall + 1)) := Lib.hid (OX0.out.below hB)
                have TX1 : Hid (Blk X1 gk 4 (tkc (tk.set kn true) (pw tall))) := Lib.hid (TX0.out.below hB TX0.out.lt)
                have ZX1 : Hid (Blk X1 gz 94 zsig) := Lib.hid (ZX0.out.below hB ZX0.out.lt)
                have RX1 : Hid (RingAt X1 w.heap.size g seed tall (tk.set kn true) v) := Lib.hid (RX0.out.below hB)
                have KX1 : Hid (Blk X1 gx 99 zsig) := Lib.hid (KX0.out.below hB KX0.out.lt)
                have NX1 : Hid (WayR X1 vf zW 0) := Lib.hid (hwf)
                clear SX0 DX0 BX0 AX0 OX0 TX0 ZX0 RX0 KX0 hB hwf
                refine ⟨_, rfl, hK.out _ _ (⟨ZX1.out, KX1.out, TX1.out⟩) (fun hHeld => ?_)⟩
                clear hK K
                show wpAnyH _ _ _ _ _ _ _ (Act.put _ (some 170) _) _
                simp only [Act.put, List.setIfInBounds_toArray, List.set_cons_zero, List.set_cons_succ]
                refine wpAnyH_ready (rs := [3]) (by kernel_rfl) (by simp) ?_
                refine AllReadyH.cons rfl (fun K hK => ?_) AllReadyH.nil
                refine step_call rfl 52 #[.tmp 170, .tmp 171] #[99, 99] rfl #[.agg (rsg zS 0 vf).toArray, .agg zsig.toArray] (by simp [Act.eval]) (by go_simp) (same_zero vf X1 NX1) ?_
                rintro e X2 ⟨rfl, hB⟩
                have SX2 : Hid (Blk X2 w.heap.size 29 (w8 seed)) := Lib.hid (SX1.out.below hB SX1.out.lt)
                have DX2 : Hid (Blk X2 (w.heap.size + 1) 29 (w8 d)) := Lib.hid (DX1.out.below hB DX1.out.lt)
                have BX2 : Hid (Below w.heap.size w X2) := Lib.hid (BX1.out.trans (hB.mono BX1.out.size))
                have AX2 : Hid (Blk X2 ga 40 [.string firstText, .string roundText]) := Lib.hid (AX1.out.below hB AX1.out.lt)
                have OX2 : Hid (OutAt X2 w.heap.size (.slice (some ⟨go, 0, none⟩) (tall + 1) co) seed tall (tall + 1)) := Lib.hid (OX1.out.below hB)
                have TX2 : Hid (Blk X2 gk 4 (tkc (tk.set kn true) (pw tall))) := Lib.hid (TX1.out.below hB TX1.out.lt)
                have ZX2 : Hid (Blk X2 gz 94 zsig) := Lib.hid (ZX1.out.below hB ZX1.out.lt)
                have RX2 : Hid (RingAt X2 w.heap.size g seed tall (tk.set kn true) v) := Lib.hid (RX1.out.below hB)
                have KX2 : Hid (Blk X2 gx 99 zsig) := Lib.hid (KX1.out.below hB KX1.out.lt)
                have NX2 : Hid (WayR X2 vf zW 0) := Lib.hid (NX1.out.below hB)
                clear SX1 DX1 BX1 AX1 OX1 TX1 ZX1 RX1 KX1 NX1 hB
                refine ⟨_, rfl, hK.out _ _ (⟨ZX2.out, KX2.out, TX2.out⟩) (fun hHeld => ?_)⟩
                clear hK K
                show wpAnyH _ _ _ _ _ _ _ (Act.put _ (some 172) _) _
                simp only [Act.put, List.setIfInBounds_toArray, List.set_cons_zero, List.set_cons_succ]
                refine wpAnyH_take (i := 4) (v := .bool false) rfl (by kernel_rfl) (by kernel_rfl) (by kernel_rfl) (fun _ _ _ h => h) (Or.inl ⟨by rfl, by intro w' h; go_simp⟩) hHeld ?_
                show wpAnyH _ _ _ _ _ _ _ (Act.put _ (some 173) _) _
                simp only [Act.put, List.setIfInBounds_toArray, List.set_cons_zero, List.set_cons_succ]
                refine wpAnyH_take (i := 5) (v := .bool false) rfl (by kernel_rfl) (by kernel_rfl) (by kernel_rfl) (fun _ _ _ h => h) (Or.inl ⟨by rfl, fun w _ => by rfl⟩) hHeld ?_
                show wpAnyH _ _ _ _ _ _ _ (Act.put _ (some 174) _) _
                simp only [Act.put, List.setIfInBounds_toArray, List.set_cons_zero, List.set_cons_succ]
                refine wpAnyH_take (i := 6) (v := .pointer (some ⟨g, 0, none⟩)) rfl (by kernel_rfl) (by kernel_rfl) (by kernel_rfl) (fun _ _ _ h => h) (Or.inl ⟨by rfl, fun w _ => by rfl⟩) hHeld ?_
                show wpAnyH _ _ _ _ _ _ _ (Act.put _ (some 175) _) _
                simp only [Act.put, List.setIfInBounds_toArray, List.set_cons_zero, List.set_cons_succ]
                refine wpAnyH_take (i := 7) (v := .int .u32 (kn : Int)) rfl (by kernel_rfl) (by kernel_rfl) (by kernel_rfl) (fun _ _ _ h => h) (Or.inl ⟨by rfl, fun w _ => by rfl⟩) hHeld ?_
                show wpAnyH _ _ _ _ _ _ _ (Act.put _ (some 176) _) _
                simp only [Act.put, List.setIfInBounds_toArray, List.set_cons_zero, List.set_cons_succ]
                refine wpAnyH_take (i := 9) (v := .bool true) rfl (by kernel_rfl) (by kernel_rfl) (by kernel_rfl) (fun _ _ _ h => h) (Or.inl ⟨by rfl, fun w _ => by rfl⟩) hHeld ?_
                show wpAnyH _ _ _ _ _ _ _ (Act.put _ (some 178) _) _
                simp only [Act.put, List.setIfInBounds_toArray, List.set_cons_zero, List.set_cons_succ]
                refine wpAnyH_ready (rs := [8]) (by kernel_rfl) (by simp) ?_
                refine AllReadyH.cons rfl (fun K hK => ?_) AllReadyH.nil
                have hcT := taken_any g kn seed tall w.heap.size (tk.set kn true) v X2 RX2 HK32.out
                rw [decide_eq_true hin, set_got tk kn hkl, Bool.true_and] at hcT
                refine step_call rfl 54 #[.tmp 175, .tmp 176] #[84, 38] rfl #[.pointer (some ⟨g, 0, none⟩), .int .u32 (kn : Int)] (by simp [Act.eval]) (by go_simp) (hcT) ?_
                rintro e X3 ⟨rfl, hB⟩
                have SX3 : Hid (Blk X3 w.heap.size 29 (w8 seed)) := Lib.hid (SX2.out.below hB SX2.out.lt)
                have DX3 : Hid (Blk X3 (w.heap.size + 1) 29 (w8 d)) := Lib.hid (DX2.out.below hB DX2.out.lt)
                have BX3 : Hid (Below w.heap.size w X3) := Lib.hid (BX2.out.trans (hB.mono BX2.out.size))
                have AX3 : Hid (Blk X3 ga 40 [.string firstText, .string roundText]) := Lib.hid (AX2.out.below hB AX2.out.lt)
                have OX3 : Hid (OutAt X3 w.heap.size (.slice (some ⟨go, 0, none⟩) (tall + 1) co) seed tall (tall + 1)) := Lib.hid (OX2.out.below hB)
                have TX3 : Hid (Blk X3 gk 4 (tkc (tk.set kn true) (pw tall))) := Lib.hid (TX2.out.below hB TX2.out.lt)
                have ZX3 : Hid (Blk X3 gz 94 zsig) := Lib.hid (ZX2.out.below hB ZX2.out.lt)
                have RX3 : Hid (RingAt X3 w.heap.size g seed tall (tk.set kn true) v) := Lib.hid (RX2.out.below hB)
                have KX3 : Hid (Blk X3 gx 99 zsig) := Lib.hid (KX2.out.below hB KX2.out.lt)
                have NX3 : Hid (WayR X3 vf zW 0) := Lib.hid (NX2.out.below hB)
                clear SX2 DX2 BX2 AX2 OX2 TX2 ZX2 RX2 KX2 NX2 hB
                refine ⟨_, rfl, hK.out _ _ (⟨ZX3.out, KX3.out, TX3.out⟩) (fun hHeld => ?_)⟩
                clear hK K
                show wpAnyH _ _ _ _ _ _ _ (Act.put _ (some 177) _) _
                simp only [Act.put, List.setIfInBounds_toArray, List.set_cons_zero, List.set_cons_succ]
                refine wpAnyH_take (i := 10) (v := .bool true) rfl (by kernel_rfl) (by kernel_rfl) (by kernel_rfl) (fun _ _ _ h => h) (Or.inl ⟨by rfl, fun w _ => by rfl⟩) hHeld ?_
                show wpAnyH _ _ _ _ _ _ _ (Act.put _ (some 179) _) _
                simp only [Act.put, List.setIfInBounds_toArray, List.set_cons_zero, List.set_cons_succ]
                refine wpAnyH_take (i := 11) (v := .slice (some ⟨gk, 0, none⟩) (pw tall) (pw tall)) rfl (by kernel_rfl) (by kernel_rfl) (by kernel_rfl) (fun _ _ _ h => h) (Or.inl ⟨by rfl, fun w _ => by rfl⟩) hHeld ?_
                show wpAnyH _ _ _ _ _ _ _ (Act.put _ (some 180) _) _
                simp only [Act.put, List.setIfInBounds_toArray, List.set_cons_zero, List.set_cons_succ]
                refine wpAnyH_take (i := 12) (v := .int .u32 (kn : Int)) rfl (by kernel_rfl) (by kernel_rfl) (by kernel_rfl) (fun _ _ _ h => h) (Or.inl ⟨by rfl, fun w _ => by rfl⟩) hHeld ?_
                show wpAnyH _ _ _ _ _ _ _ (Act.put _ (some 181) _) _
                simp only [Act.put, List.setIfInBounds_toArray, List.set_cons_zero, List.set_cons_succ]
                refine wpAnyH_take (i := 13) (v := .pointer (some ⟨gk, kn, none⟩)) rfl (by kernel_rfl) (by kernel_rfl) (by kernel_rfl) (fun _ _ _ h => h) (Or.inl ⟨by rfl, by intro w' h; go_simp⟩) hHeld ?_
                show wpAnyH _ _ _ _ _ _ _ (Act.put _ (some 182) _) _
                simp only [Act.put, List.setIfInBounds_toArray, List.set_cons_zero, List.set_cons_succ]
                refine wpAnyH_take (i := 14) (v := .bool true) rfl (by kernel_rfl) (by kernel_rfl) (by kernel_rfl) (fun _ _ _ h => h) (Or.inl ⟨by rfl, by intro w' h; have q9 := h.2.2.cell kn; rw [tkc_get _ _ _ hin (by simp [hl256]; omega), set_got tk kn hkl] at q9; go_simp⟩) hHeld ?_
                show wpAnyH _ _ _ _ _ _ _ (Act.put _ (some 183) _) _
                simp only [Act.put, List.setIfInBounds_toArray, List.set_cons_zero, List.set_cons_succ]
                refine wpAnyH_take (i := 15) (v := .bool true) rfl (by kernel_rfl) (by kernel_rfl) (by kernel_rfl) (fun _ _ _ h => h) (Or.inl ⟨by rfl, by intro w hSw; first | rfl | go_simp⟩) hHeld ?_
                show wpAnyH _ _ _ _ _ _ _ (Act.put _ (some 184) _) _
                simp only [Act.put, List.setIfInBounds_toArray, List.set_cons_zero, List.set_cons_succ]
                refine wpAnyH_take (i := 16) (v := .bool false) rfl (by kernel_rfl) (by kernel_rfl) (by kernel_rfl) (fun _ _ _ h => h) (Or.inl ⟨by rfl, by intro w' h; go_simp⟩) hHeld ?_
                show wpAnyH _ _ _ _ _ _ _ (Act.put _ (some 185) _) _
                simp only [Act.put, List.setIfInBounds_toArray, List.set_cons_zero, List.set_cons_succ]
                refine wpAnyH_take (i := 17) (v := .bool false) rfl (by kernel_rfl) (by kernel_rfl) (by kernel_rfl) (fun _ _ _ h => h) (Or.inl ⟨by rfl, by intro w hSw; first | rfl | go_simp⟩) hHeld ?_
                show wpAnyH _ _ _ _ _ _ _ (Act.put _ (some 186) _) _
                simp only [Act.put, List.setIfInBounds_toArray, List.set_cons_zero, List.set_cons_succ]
                refine wpAnyH_done (by kernel_rfl) ?_ _
                clear hHeld
                go_wp2
                go_roundw
                case rel => exact ⟨n + 1, (tk.set kn true), by have := HLT.out; omega, by rw [show ((n + 1 : Nat) : Int) = x + 1 by have := HXN.out; omega], TX3, SX3, DX3, BX3, RX3, AX3, OX3⟩
                case measure => simp [intOf]; omega
            · have hini : ¬ (kn : Int) < ((pw tall : Nat) : Int) := by omega
              have ck := (Bwr.out.cell (p := ⟨gK, oK + x.toNat, none⟩) hgK).trans hkc
              have hrg := Rwr.out.blk.lt
              go_upto_region 14 with fail
              go_upto_region 15 with fail
              go_upto_region 16 with fail
              go_upto_region 17 with fail
              clear ck
              have hB : Below wr.heap.size wr (wr.alloc (.cells Tryd.zeroCells94 94)) := (Below.refl _ _).alloc (Nat.le_refl _) _
              have hkz : gk < wr.heap.size := Twr.out.lt
              have SU1 : Hid (Blk (wr.alloc (.cells Tryd.zeroCells94 94)) w.heap.size 29 (w8 seed)) := Lib.hid (Swr.out.below hB Swr.out.lt)
              have DU1 : Hid (Blk (wr.alloc (.cells Tryd.zeroCells94 94)) (w.heap.size + 1) 29 (w8 d)) := Lib.hid (Dwr.out.below hB Dwr.out.lt)
              have BU1 : Hid (Below w.heap.size w (wr.alloc (.cells Tryd.zeroCells94 94))) := Lib.hid (Bwr.out.trans (hB.mono Bwr.out.size))
              have RU1 : Hid (RingAt (wr.alloc (.cells Tryd.zeroCells94 94)) w.heap.size g seed tall tk v) := Lib.hid (Rwr.out.below hB)
              have AU1 : Hid (Blk (wr.alloc (.cells Tryd.zeroCells94 94)) ga 40 [.string firstText, .string roundText]) := Lib.hid (Awr.out.below hB Awr.out.lt)
              have OU1 : Hid (OutAt (wr.alloc (.cells Tryd.zeroCells94 94)) w.heap.size (.slice (some ⟨go, 0, none⟩) (tall + 1) co) seed tall (tall + 1)) := Lib.hid (Owr.out.below hB)
              have TU1 : Hid (Blk (wr.alloc (.cells Tryd.zeroCells94 94)) gk 4 (tkc tk (pw tall))) := Lib.hid (Twr.out.below hB Twr.out.lt)
              have ZU1 : Hid (Blk (wr.alloc (.cells Tryd.zeroCells94 94)) wr.heap.size 94 zsig) := Lib.hid (by
                have h := Blk.new wr 94 zsig
                rw [zsig_arr] at h
                exact h)
              clear hB Swr Dwr Bwr Rwr Awr Owr Twr
              generalize (wr.alloc (.cells Tryd.zeroCells94 94)) = U1 at SU1 DU1 BU1 RU1 AU1 OU1 TU1 ZU1 ⊢
              generalize wr.heap.size = gz at hkz hrg ZU1 ⊢
              have cb := (BU1.out.cell (p := ⟨gB, oB + x.toNat, none⟩) hgB).trans hbc
              go_wp2_with fail
              refine (spend_far g kn seed tall w.heap.size tk v U1 RU1 HK32.out hin).mono ?_
              rintro e U2 ⟨rfl, hB⟩
              have SU2 : Hid (Blk U2 w.heap.size 29 (w8 seed)) := Lib.hid (SU1.out.below hB SU1.out.lt)
              have DU2 : Hid (Blk U2 (w.heap.size + 1) 29 (w8 d)) := Lib.hid (DU1.out.below hB DU1.out.lt)
              have BU2 : Hid (Below w.heap.size w U2) := Lib.hid (BU1.out.trans (hB.mono BU1.out.size))
              have RU2 : Hid (RingAt U2 w.heap.size g seed tall tk v) := Lib.hid (RU1.out.below hB)
              have AU2 : Hid (Blk U2 ga 40 [.string firstText, .string roundText]) := Lib.hid (AU1.out.below hB AU1.out.lt)
              have OU2 : Hid (OutAt U2 w.heap.size (.slice (some ⟨go, 0, none⟩) (tall + 1) co) seed tall (tall + 1)) := Lib.hid (OU1.out.below hB)
              have TU2 : Hid (Blk U2 gk 4 (tkc tk (pw tall))) := Lib.hid (TU1.out.below hB TU1.out.lt)
              have ZU2 : Hid (Blk U2 gz 94 zsig) := Lib.hid (ZU1.out.below hB ZU1.out.lt)
              clear SU1 DU1 BU1 RU1 AU1 OU1 TU1 ZU1
              clear hB cb
              go_upto_region 35 with fail
              have HL := Lib.hid (heap_alloc_last U2 (.cells Tryd.zeroCells99 99))
              go_upto_region 36 with (first | (refine wpList_store_row rfl 99 (.tmp 22) (.tmp 151) rfl U2.heap.size zsig.toArray rfl (congrArg Value.agg zsig_arr9.symm) 99 _ HL.out HS9.out HZ9.out HO9.out ?_; rw [World.setRow_alloc_new]))
              have hB : Below U2.heap.size U2 (U2.alloc (.cells zsig.toArray 99)) := (Below.refl _ _).alloc (Nat.le_refl _) _
              have SU3 : Hid (Blk (U2.alloc (.cells zsig.toArray 99)) w.heap.size 29 (w8 seed)) := Lib.hid (SU2.out.below hB SU2.out.lt)
              have DU3 : Hid (Blk (U2.alloc (.cells zsig.toArray 99)) (w.heap.size + 1) 29 (w8 d)) := Lib.hid (DU2.out.below hB DU2.out.lt)
              have BU3 : Hid (Below w.heap.size w (U2.alloc (.cells zsig.toArray 99))) := Lib.hid (BU2.out.trans (hB.mono BU2.out.size))
              have RU3 : Hid (RingAt (U2.alloc (.cells zsig.toArray 99)) w.heap.size g seed tall tk v) := Lib.hid (RU2.out.below hB)
              have AU3 : Hid (Blk (U2.alloc (.cells zsig.toArray 99)) ga 40 [.string firstText, .string roundText]) := Lib.hid (AU2.out.below hB AU2.out.lt)
              have OU3 : Hid (OutAt (U2.alloc (.cells zsig.toArray 99)) w.heap.size (.slice (some ⟨go, 0, none⟩) (tall + 1) co) seed tall (tall + 1)) := Lib.hid (OU2.out.below hB)
              have TU3 : Hid (Blk (U2.alloc (.cells zsig.toArray 99)) gk 4 (tkc tk (pw tall))) := Lib.hid (TU2.out.below hB TU2.out.lt)
              have ZU3 : Hid (Blk (U2.alloc (.cells zsig.toArray 99)) gz 94 zsig) := Lib.hid (ZU2.out.below hB ZU2.out.lt)
              have KU3 : Hid (Blk (U2.alloc (.cells zsig.toArray 99)) U2.heap.size 99 zsig) := Lib.hid (Blk.new _ _ _)
              have HKX : Hid (gz < U2.heap.size) := Lib.hid ZU2.out.lt
              clear hB HL SU2 DU2 BU2 RU2 AU2 OU2 TU2 ZU2
              generalize (U2.alloc (.cells zsig.toArray 99)) = U3 at SU3 DU3 BU3 RU3 AU3 OU3 TU3 ZU3 KU3 ⊢
              generalize U2.heap.size = gx at KU3 HKX ⊢
              have hzx := HKX.out
              have cb := (BU3.out.cell (p := ⟨gB, oB + x.toNat, none⟩) hgB).trans hbc
              go_upto_region 38 with fail
              clear cb
              have hBz : Below U3.heap.size U3 U3.drew := below_drewN (Below.refl _ _) 1
              have SX0 : Hid (Blk U3.drew w.heap.size 29 (w8 seed)) := Lib.hid (SU3.out.below hBz SU3.out.lt)
              have DX0 : Hid (Blk U3.drew (w.heap.size + 1) 29 (w8 d)) := Lib.hid (DU3.out.below hBz DU3.out.lt)
              have BX0 : Hid (Below w.heap.size w U3.drew) := Lib.hid (BU3.out.trans (hBz.mono BU3.out.size))
              have RX0 : Hid (RingAt U3.drew w.heap.size g seed tall tk v) := Lib.hid (RU3.out.below hBz)
              have AX0 : Hid (Blk U3.drew ga 40 [.string firstText, .string roundText]) := Lib.hid (AU3.out.below hBz AU3.out.lt)
              have OX0 : Hid (OutAt U3.drew w.heap.size (.slice (some ⟨go, 0, none⟩) (tall + 1) co) seed tall (tall + 1)) := Lib.hid (OU3.out.below hBz)
              have TX0 : Hid (Blk U3.drew gk 4 (tkc tk (pw tall))) := Lib.hid (TU3.out.below hBz TU3.out.lt)
              have ZX0 : Hid (Blk U3.drew gz 94 zsig) := Lib.hid (ZU3.out.below hBz ZU3.out.lt)
              have KX0 : Hid (Blk U3.drew gx 99 zsig) := Lib.hid (KU3.out.below hBz KU3.out.lt)
              clear hBz
              refine wp_region_held_drew (S := fun w' => Blk w' gz 94 zsig ∧ Blk w' gx 99 zsig ∧ Blk w' gk 4 (tkc tk (pw tall))) (by kernel_rfl) (⟨ZX0.out, KX0.out, TX0.out⟩) (fun hHeld => ?_)
              generalize U3.drew = X0 at hHeld SX0 DX0 BX0 RX0 AX0 OX0 TX0 ZX0 KX0 ⊢
              refine wpAnyH_take (i := 0) (v := .agg zsig.toArray) rfl (by kernel_rfl) (by kernel_rfl) (by kernel_rfl) (fun _ _ _ h => h) (yieldsIf_load_mid rfl 94 (.tmp 19) rfl gz 0 rfl zsig _ (fun w' h => Blk.all h.1) Tryd.underlying94 rfl (by rw [zsig_length]; exact info94)) hHeld ?_
              show wpAnyH _ _ _ _ _ _ _ (Act.put _ (some 169) _) _
              simp only [Act.put, List.setIfInBounds_toArray, List.set_cons_zero, List.set_cons_succ]
              refine wpAnyH_take (i := 2) (v := .agg zsig.toArray) rfl (by kernel_rfl) (by kernel_rfl) (by kernel_rfl) (fun _ _ _ h => h) (yieldsIf_load_mid rfl 99 (.tmp 22) rfl gx 0 rfl zsig _ (fun w' h => Blk.all h.2.1) Tryd.underlying99 rfl (by rw [zsig_length]; exact info99)) hHeld ?_
              show wpAnyH _ _ _ _ _ _ _ (Act.put _ (some 171) _) _
              simp only [Act.put, List.setIfInBounds_toArray, List.set_cons_zero, List.set_cons_succ]
              refine wpAnyH_ready (rs := [1]) (by kernel_rfl) (by simp) ?_
              refine AllReadyH.cons rfl (fun K hK => ?_) AllReadyH.nil
              refine step_call rfl 53 #[.tmp 169] #[94] rfl #[.agg zsig.toArray] (by simp [Act.eval]) (by go_simp) (from_zero X0) ?_
              rintro e X1 ⟨vf, rfl, hwf, hB⟩
              have SX1 : Hid (Blk X1 w.heap.size 29 (w8 seed)) := Lib.hid (SX0.out.below hB SX0.out.lt)
              have DX1 : Hid (Blk X1 (w.heap.size + 1) 29 (w8 d)) := Lib.hid (DX0.out.below hB DX0.out.lt)
              have BX1 : Hid (Below w.heap.size w X1) := Lib.hid (BX0.out.trans (hB.mono BX0.out.size))
              have RX1 : Hid (RingAt X1 w.heap.size g seed tall tk v) := Lib.hid (RX0.out.below hB)
              have AX1 : Hid (Blk X1 ga 40 [.string firstText, .string roundText]) := Lib.hid (AX0.out.below hB AX0.out.lt)
              have OX1 : Hid (OutAt X1 w.heap.size (.slice (some ⟨go, 0, none⟩) (tall + 1) co) seed tall (tall + 1)) := Lib.hid (OX0.out.below hB)
              have TX1 : Hid (Blk X1 gk 4 (tkc tk (pw tall))) := Lib.hid (TX0.out.below hB TX0.out.lt)
              have ZX1 : Hid (Blk X1 gz 94 zsig) := Lib.hid (ZX0.out.below hB ZX0.out.lt)
              have KX1 : Hid (Blk X1 gx 99 zsig) := Lib.hid (KX0.out.below hB KX0.out.lt)
              have NX1 : Hid (WayR X1 vf zW 0) := Lib.hid (hwf)
              clear SX0 DX0 BX0 RX0 AX0 OX0 TX0 ZX0 KX0 hB hwf
              refine ⟨_, rfl, hK.out _ _ (⟨ZX1.out, KX1.out, TX1.out⟩) (fun hHeld => ?_)⟩
              clear hK K
              show wpAnyH _ _ _ _ _ _ _ (Act.put _ (some 170) _) _
              simp only [Act.put, List.setIfInBounds_toArray, List.set_cons_zero, List.set_cons_succ]
              refine wpAnyH_ready (rs := [3]) (by kernel_rfl) (by simp) ?_
              refine AllReadyH.cons rfl (fun K hK => ?_) AllReadyH.nil
              refine step_call rfl 52 #[.tmp 170, .tmp 171] #[99, 99] rfl #[.agg (rsg zS 0 vf).toArray, .agg zsig.toArray] (by simp [Act.eval]) (by go_simp) (same_zero vf X1 NX1) ?_
              rintro e X2 ⟨rfl, hB⟩
              have SX2 : Hid (Blk X2 w.heap.size 29 (w8 seed)) := Lib.hid (SX1.out.below hB SX1.out.lt)
              have DX2 : Hid (Blk X2 (w.heap.size + 1) 29 (w8 d)) := Lib.hid (DX1.out.below hB DX1.out.lt)
              have BX2 : Hid (Below w.heap.size w X2) := Lib.hid (BX1.out.trans (hB.mono BX1.out.size))
              have RX2 : Hid (RingAt X2 w.heap.size g seed tall tk v) := Lib.hid (RX1.out.below hB)
              have AX2 : Hid (Blk X2 ga 40 [.string firstText, .string roundText]) := Lib.hid (AX1.out.below hB AX1.out.lt)
              have OX2 : Hid (OutAt X2 w.heap.size (.slice (some ⟨go, 0, none⟩) (tall + 1) co) seed tall (tall + 1)) := Lib.hid (OX1.out.below hB)
              have TX2 : Hid (Blk X2 gk 4 (tkc tk (pw tall))) := Lib.hid (TX1.out.below hB TX1.out.lt)
              have ZX2 : Hid (Blk X2 gz 94 zsig) := Lib.hid (ZX1.out.below hB ZX1.out.lt)
              have KX2 : Hid (Blk X2 gx 99 zsig) := Lib.hid (KX1.out.below hB KX1.out.lt)
              have NX2 : Hid (WayR X2 vf zW 0) := Lib.hid (NX1.out.below hB)
              clear SX1 DX1 BX1 RX1 AX1 OX1 TX1 ZX1 KX1 NX1 hB
              refine ⟨_, rfl, hK.out _ _ (⟨ZX2.out, KX2.out, TX2.out⟩) (fun hHeld => ?_)⟩
              clear hK K
              show wpAnyH _ _ _ _ _ _ _ (Act.put _ (some 172) _) _
              simp only [Act.put, List.setIfInBounds_toArray, List.set_cons_zero, List.set_cons_succ]
              refine wpAnyH_take (i := 4) (v := .bool false) rfl (by kernel_rfl) (by kernel_rfl) (by kernel_rfl) (fun _ _ _ h => h) (Or.inl ⟨by rfl, by intro w' h; go_simp⟩) hHeld ?_
              show wpAnyH _ _ _ _ _ _ _ (Act.put _ (some 173) _) _
              simp only [Act.put, List.setIfInBounds_toArray, List.set_cons_zero, List.set_cons_succ]
              refine wpAnyH_take (i := 5) (v := .bool false) rfl (by kernel_rfl) (by kernel_rfl) (by kernel_rfl) (fun _ _ _ h => h) (Or.inl ⟨by rfl, fun w _ => by rfl⟩) hHeld ?_
              show wpAnyH _ _ _ _ _ _ _ (Act.put _ (some 174) _) _
              simp only [Act.put, List.setIfInBounds_toArray, List.set_cons_zero, List.set_cons_succ]
              refine wpAnyH_take (i := 6) (v := .pointer (some ⟨g, 0, none⟩)) rfl (by kernel_rfl) (by kernel_rfl) (by kernel_rfl) (fun _ _ _ h => h) (Or.inl ⟨by rfl, fun w _ => by rfl⟩) hHeld ?_
              show wpAnyH _ _ _ _ _ _ _ (Act.put _ (some 175) _) _
              simp only [Act.put, List.setIfInBounds_toArray, List.set_cons_zero, List.set_cons_succ]
              refine wpAnyH_take (i := 7) (v := .int .u32 (kn : Int)) rfl (by kernel_rfl) (by kernel_rfl) (by kernel_rfl) (fun _ _ _ h => h) (Or.inl ⟨by rfl, fun w _ => by rfl⟩) hHeld ?_
              show wpAnyH _ _ _ _ _ _ _ (Act.put _ (some 176) _) _
              simp only [Act.put, List.setIfInBounds_toArray, List.set_cons_zero, List.set_cons_succ]
              refine wpAnyH_take (i := 9) (v := .bool false) rfl (by kernel_rfl) (by kernel_rfl) (by kernel_rfl) (fun _ _ _ h => h) (Or.inl ⟨by rfl, fun w _ => by rfl⟩) hHeld ?_
              show wpAnyH _ _ _ _ _ _ _ (Act.put _ (some 178) _) _
              simp only [Act.put, List.setIfInBounds_toArray, List.set_cons_zero, List.set_cons_succ]
              refine wpAnyH_ready (rs := [8]) (by kernel_rfl) (by simp) ?_
              refine AllReadyH.cons rfl (fun K hK => ?_) AllReadyH.nil
              have hcT := taken_any g kn seed tall w.heap.size tk v X2 RX2 HK32.out
              rw [decide_eq_false hin, Bool.false_and] at hcT
              refine step_call rfl 54 #[.tmp 175, .tmp 176] #[84, 38] rfl #[.pointer (some ⟨g, 0, none⟩), .int .u32 (kn : Int)] (by simp [Act.eval]) (by go_simp) (hcT) ?_
              rintro e X3 ⟨rfl, hB⟩
              have SX3 : Hid (Blk X3 w.heap.size 29 (w8 seed)) := Lib.hid (SX2.out.below hB SX2.out.lt)
              have DX3 : Hid (Blk X3 (w.heap.size + 1) 29 (w8 d)) := Lib.hid (DX2.out.below hB DX2.out.lt)
              have BX3 : Hid (Below w.heap.size w X3) := Lib.hid (BX2.out.trans (hB.mono BX2.out.size))
              have RX3 : Hid (RingAt X3 w.heap.size g seed tall tk v) := Lib.hid (RX2.out.below hB)
              have AX3 : Hid (Blk X3 ga 40 [.string firstText, .string roundText]) := Lib.hid (AX2.out.below hB AX2.out.lt)
              have OX3 : Hid (OutAt X3 w.heap.size (.slice (some ⟨go, 0, none⟩) (tall + 1) co) seed tall (tall + 1)) := Lib.hid (OX2.out.below hB)
              have TX3 : Hid (Blk X3 gk 4 (tkc tk (pw tall))) := Lib.hid (TX2.out.below hB TX2.out.lt)
              have ZX3 : Hid (Blk X3 gz 94 zsig) := Lib.hid (ZX2.out.below hB ZX2.out.lt)
              have KX3 : Hid (Blk X3 gx 99 zsig) := Lib.hid (KX2.out.below hB KX2.out.lt)
              have NX3 : Hid (WayR X3 vf zW 0) := Lib.hid (NX2.out.below hB)
              clear SX2 DX2 BX2 RX2 AX2 OX2 TX2 ZX2 KX2 NX2 hB
              refine ⟨_, rfl, hK.out _ _ (⟨ZX3.out, KX3.out, TX3.out⟩) (fun hHeld => ?_)⟩
              clear hK K
              show wpAnyH _ _ _ _ _ _ _ (Act.put _ (some 177) _) _
              simp only [Act.put, List.setIfInBounds_toArray, List.set_cons_zero, List.set_cons_succ]
              refine wpAnyH_take (i := 10) (v := .bool false) rfl (by kernel_rfl) (by kernel_rfl) (by kernel_rfl) (fun _ _ _ h => h) (Or.inl ⟨by rfl, fun w _ => by rfl⟩) hHeld ?_
              show wpAnyH _ _ _ _ _ _ _ (Act.put _ (some 179) _) _
              simp only [Act.put, List.setIfInBounds_toArray, List.set_cons_zero, List.set_cons_succ]
              refine wpAnyH_take (i := 11) (v := undef) rfl (by kernel_rfl) (by kernel_rfl) (by kernel_rfl) (fun _ _ _ h => h) (Or.inr ⟨by rfl, rfl⟩) hHeld ?_
              show wpAnyH _ _ _ _ _ _ _ (Act.put _ (some 180) _) _
              simp only [Act.put, List.setIfInBounds_toArray, List.set_cons_zero, List.set_cons_succ]
              refine wpAnyH_take (i := 12) (v := undef) rfl (by kernel_rfl) (by kernel_rfl) (by kernel_rfl) (fun _ _ _ h => h) (Or.inr ⟨by rfl, rfl⟩) hHeld ?_
              show wpAnyH _ _ _ _ _ _ _ (Act.put _ (some 181) _) _
              simp only [Act.put, List.setIfInBounds_toArray, List.set_cons_zero, List.set_cons_succ]
              refine wpAnyH_take (i := 13) (v := undef) rfl (by kernel_rfl) (by kernel_rfl) (by kernel_rfl) (fun _ _ _ h => h) (Or.inr ⟨by rfl, rfl⟩) hHeld ?_
              show wpAnyH _ _ _ _ _ _ _ (Act.put _ (some 182) _) _
              simp only [Act.put, List.setIfInBounds_toArray, List.set_cons_zero, List.set_cons_succ]
              refine wpAnyH_take (i := 14) (v := undef) rfl (by kernel_rfl) (by kernel_rfl) (by kernel_rfl) (fun _ _ _ h => h) (Or.inr ⟨by rfl, rfl⟩) hHeld ?_
              show wpAnyH _ _ _ _ _ _ _ (Act.put _ (some 183) _) _
              simp only [Act.put, List.setIfInBounds_toArray, List.set_cons_zero, List.set_cons_succ]
              refine wpAnyH_take (i := 15) (v := .bool false) rfl (by kernel_rfl) (by kernel_rfl) (by kernel_rfl) (fun _ _ _ h => h) (Or.inl ⟨by rfl, by intro w hSw; first | rfl | go_simp⟩) hHeld ?_
              show wpAnyH _ _ _ _ _ _ _ (Act.put _ (some 184) _) _
              simp only [Act.put, List.setIfInBounds_toArray, List.set_cons_zero, List.set_cons_succ]
              refine wpAnyH_take (i := 16) (v := .bool false) rfl (by kernel_rfl) (by kernel_rfl) (by kernel_rfl) (fun _ _ _ h => h) (Or.inl ⟨by rfl, by intro w' h; go_simp⟩) hHeld ?_
              show wpAnyH _ _ _ _ _ _ _ (Act.put _ (some 185) _) _
              simp only [Act.put, List.setIfInBounds_toArray, List.set_cons_zero, List.set_cons_succ]
              refine wpAnyH_take (i := 17) (v := .bool false) rfl (by kernel_rfl) (by kernel_rfl) (by kernel_rfl) (fun _ _ _ h => h) (Or.inl ⟨by rfl, by intro w hSw; first | rfl | go_simp⟩) hHeld ?_
              show wpAnyH _ _ _ _ _ _ _ (Act.put _ (some 186) _) _
              simp only [Act.put, List.setIfInBounds_toArray, List.set_cons_zero, List.set_cons_succ]
              refine wpAnyH_done (by kernel_rfl) ?_ _
              clear hHeld
              go_wp2
              go_roundw
              case rel => exact ⟨n + 1, tk, by have := HLT.out; omega, by rw [show ((n + 1 : Nat) : Int) = x + 1 by have := HXN.out; omega], TX3, SX3, DX3, BX3, RX3, AX3, OX3⟩
              case measure => simp [intOf]; omega
        · have n3 : (20 : Int) ≤ (n : Int) := by omega
          clear h20
          go_wp2
          go_ret
          exact ⟨rfl, Bwr.out⟩
      · have n2 : ¬ (n : Int) < (bl : Int) := by omega
        go_wp2
        go_ret
        exact ⟨rfl, Bwr.out⟩
    · obtain rfl : n = kl := by omega
      go_wp2
      go_ret
      exact ⟨rfl, Bwr.out⟩
end Go.Proofs.YtkonokjhpddbfaaDoor
