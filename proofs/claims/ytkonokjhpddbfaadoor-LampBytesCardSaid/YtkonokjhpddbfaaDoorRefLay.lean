/-
  The document's Lay (function 37): a signature's bytes behind others; nothing that was there is written.
-/
import Derived.Test.YtkonokjhpddbfaaDoorRefIn
import Derived.Test.YtkonokjhpddbfaaDoorLampG
namespace Go.Proofs.YtkonokjhpddbfaaDoor
open Go.RowKit
set_option linter.unusedVariables false
theorem slice16r8 (g o : Nat) (W : World) : (Instr.sliceAt 48 (.pointer (some ⟨g, o, none⟩)) none none none).run Tryd.prog W = .ok (.slice (some ⟨g, o, none⟩) 16 16) W := by
  have h := run_sliceAt_array_all (P := Tryd.prog) W 48 ⟨g, o, none⟩ (by kernel_rfl)
  rw [h, show Tryd.prog.arrayLen 48 = 16 by kernel_rfl, show Tryd.prog.elem 48 = 5 by kernel_rfl]
  obtain ⟨i0, hi, hz0, hz1, hz2⟩ := info_parts byte_info
  simp [sizeOf, typeInfo, hi, slicedAt, Addr.add_mid]

theorem Own.lower {w : World} {base base' : Nat} {v : Value} {l : List Nat} (h : Own w base v l) (hb : base' ≤ base) : Own w base' v l := by
  refine ⟨h.1, ?_⟩
  rcases h.2 with h1 | ⟨g, cap, cur, hv, hg, rest⟩
  · exact .inl h1
  · exact .inr ⟨g, cap, cur, hv, Nat.le_trans hb hg, rest⟩
set_option maxRecDepth 100000 in
set_option maxHeartbeats 1000000 in
theorem rlay_any (S : List Nat) (A : Option Addr) (n c : Nat) (bs : List Nat) (w : World) (HL : Hid (S.length = 1024)) (HP : Hid (∀ x ∈ S, x < 256)) (HS : Hid (Src w w.heap.size A c bs)) (HN : Hid (bs.length = n)) (hn : n ≤ 100000) :
    Calls Tryd.prog 37 #[.slice A n c, .agg (w8 S).toArray] w fun e w' => ∃ v', e = .returned v' ∧ Own w' w.heap.size v' (bs ++ layN S) ∧ Below w.heap.size w w' := by
  go_enter Tryd.func37, Tryd.ntmps37
  go_upto_region 1 with fail
  have HA : Hid (Blk (w.alloc (.cells (w8 S).toArray 51)) w.heap.size 51 (w8 S)) := Lib.hid (by
    have h := Blk.new w 51 (w8 S)
    exact h)
  have HW : Hid (Below w.heap.size w (w.alloc (.cells (w8 S).toArray 51))) := Lib.hid ((Below.refl _ _).alloc (Nat.le_refl _) _)
  generalize (w.alloc (.cells (w8 S).toArray 51)) = V at HA HW ⊢
  have hV : w.heap.size < V.heap.size := HA.out.lt
  have HSV := Lib.hid ((HS.out.below HW.out).below ((Below.refl V.heap.size V).alloc (Nat.le_refl _) (.cells #[] 5)))
  have HOE : Hid (Own (V.alloc (.cells #[] 5)) V.heap.size (.slice (some ⟨V.heap.size, 0, none⟩) 0 0) []) := Lib.hid (Own.ofOct (Own.none_ V))
  have HVE : Hid (Below V.heap.size V (V.alloc (.cells #[] 5))) := Lib.hid ((Below.refl _ _).alloc (Nat.le_refl _) _)
  have HM0 : Hid (([] : List Nat).length + bs.length ≤ 140737488355328) := Lib.hid (by rw [HN.out]; simp; omega)
  go_wp2_with (at_builtin; refine wpList_app rfl (.tmp 7) (.tmp 8) rfl V.heap.size w.heap.size (.slice (some ⟨V.heap.size, 0, none⟩) 0 0) [] bs rfl HOE.out A n c rfl HN.out.symm HSV.out HM0.out HVE.out.size ?_)
  intro v1 w1 HO1 HG1 HL1
  have HV1 : Hid (Below V.heap.size V w1) := Lib.hid (HVE.out.grown HG1.out HVE.out.size fun g' hg' => (HOE.out.base_ hg').1)
  have HO1s : Hid (Own w1 V.heap.size v1 (bs ++ rows (fun a => pcs S a ++ pcs S (32 + a)) 0)) := Lib.hid (by rw [rows_zero, List.append_nil]; exact HO1.out)
  obtain ⟨h', hh⟩ : ∃ h : Nat → List Nat, h = fun a => pcs S a ++ pcs S (32 + a) := ⟨_, rfl⟩
  have HH : Hid (∀ a, h' a = pcs S a ++ pcs S (32 + a)) := Lib.hid fun a => by rw [hh]
  have HLN : Hid (layN S = rows h' 32) := Lib.hid (by rw [hh]; rfl)
  have HHL : Hid (∀ a, a < 32 → (h' a).length = 32) := Lib.hid fun a ha => by rw [hh]; simp only [List.length_append]; rw [pcs_length _ _ (by rw [HL.out]; omega), pcs_length _ _ (by rw [HL.out]; omega)]
  rw [← hh] at HO1s
  clear hh HO1 HG1 HL1 HOE HVE HSV HM0
  go_wp2_with fail
  go_loopw [6, 5] (fun i t wr => ∃ (k : Nat), k ≤ 32 ∧ i = .int .i64 k ∧ Hid (Own wr V.heap.size t (bs ++ rows h' k)) ∧ Hid (Below V.heap.size V wr)) (fun i _ _ => 32 - (intOf i).toNat)
  case atStart => exact ⟨0, Nat.zero_le _, rfl, HO1s, HV1⟩
  case round =>
    clear HO1s HV1
    obtain ⟨k, hk, rfl, HO, HV⟩ := hrel
    have HRL : Hid ((rows h' k).length = 32 * k) := Lib.hid (rows_length' k (fun a ha => HHL.out a (by omega)))
    by_cases hlt : k < 32
    · have k1 : (k : Int) < 32 := by omega
      have HP1 : Hid ((pcs S k).length = 16) := Lib.hid (pcs_length _ _ (by rw [HL.out]; omega))
      have HP2 : Hid ((pcs S (32 + k)).length = 16) := Lib.hid (pcs_length _ _ (by rw [HL.out]; omega))
      have HSM : Hid (∀ X : World, Below V.heap.size V X → Src X V.heap.size (some ⟨w.heap.size, k * 16, none⟩) 16 (pcs S k) ∧ Src X V.heap.size (some ⟨w.heap.size, 512 + k * 16, none⟩) 16 (pcs S (32 + k))) := Lib.hid fun X hX => by
        have hb := HA.out.below hX (by omega)
        have h1 := Src.mid hb (b := V.heap.size) (by omega) HP.out (k * 16) 16 (by rw [HL.out]; omega)
        have h2 := Src.mid hb (b := V.heap.size) (by omega) HP.out (512 + k * 16) 16 (by rw [HL.out]; omega)
        unfold pcs
        rw [show 16 * k = k * 16 by omega, show 16 * (32 + k) = 512 + k * 16 by omega]
        exact ⟨h1, h2⟩
      have HS1 := Lib.hid (HSM.out wr HV.out).1
      have HM1 : Hid ((bs ++ rows h' k).length + (pcs S k).length ≤ 140737488355328) := Lib.hid (by rw [List.length_append, HRL.out, HP1.out, HN.out]; omega)
      have hs1 := slice16r8 w.heap.size (k * 16)
      have hs2 := slice16r8 w.heap.size (512 + k * 16)
      go_upto_region 6 with (at_builtin; refine wpList_app rfl (.tmp 14) (.tmp 18) rfl V.heap.size V.heap.size _ _ (pcs S k) rfl HO.out (some ⟨w.heap.size, k * 16, none⟩) 16 16 rfl HP1.out.symm HS1.out HM1.out HV.out.size ?_; intro v2 w2 HO2 HG2 HL2)
      have HV2 : Hid (Below V.heap.size V w2) := Lib.hid (HV.out.grown HG2.out HV.out.size fun g' hg' => (HO.out.base_ hg').1)
      have HS2 := Lib.hid (HSM.out w2 HV2.out).2
      have HM2 : Hid ((bs ++ rows h' k ++ pcs S k).length + (pcs S (32 + k)).length ≤ 140737488355328) := Lib.hid (by rw [List.length_append, List.length_append, HRL.out, HP1.out, HP2.out, HN.out]; omega)
      have HO2s : Hid (Own w2 V.heap.size v2 (bs ++ rows h' k ++ pcs S k)) := Lib.hid (by first | exact HO2.out | (rw [List.append_assoc]; exact HO2.out))
      clear HG2 HL2 HO2
      go_wp2_with (at_builtin; refine wpList_app rfl (.tmp 20) (.tmp 24) rfl V.heap.size V.heap.size _ _ (pcs S (32 + k)) rfl HO2s.out (some ⟨w.heap.size, 512 + k * 16, none⟩) 16 16 rfl HP2.out.symm HS2.out HM2.out HV2.out.size ?_)
      intro v3 w3 HO3 HG3 HL3
      have HV3 : Hid (Below V.heap.size V w3) := Lib.hid (HV2.out.grown HG3.out HV2.out.size fun g' hg' => (HO2s.out.base_ hg').1)
      have HOE : Hid (Own w3 V.heap.size v3 (bs ++ rows h' (k + 1))) := Lib.hid (by
        have h := HO3.out
        rw [rows_succ, HH.out k]
        first | exact h | (rw [List.append_assoc] at h; exact h) | (simp only [List.append_assoc] at h; exact h) | (simp only [List.append_assoc]; exact h))
      clear HG3 HL3 HO3 hs1 hs2
      go_wp2
      go_roundw
      case rel => exact ⟨k + 1, by omega, by go_num, HOE, HV3⟩
      case measure => simp [intOf]; omega
    · obtain rfl : k = 32 := by omega
      rw [← HLN.out] at HO
      have HOw : Hid (Own wr w.heap.size u5 (bs ++ layN S)) := Lib.hid (Own.lower HO.out (by omega))
      go_wp2
      go_ret
      exact ⟨_, rfl, HOw.out, HW.out.trans (HV.out.mono (by omega))⟩
end Go.Proofs.YtkonokjhpddbfaaDoor
