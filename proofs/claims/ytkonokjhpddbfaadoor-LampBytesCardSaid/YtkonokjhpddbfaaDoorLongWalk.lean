/-
  tollhouselaw04.LampLong (function 8): its walk: true for every signature and cut; nothing that was there is written.
-/
import Derived.Test.YtkonokjhpddbfaaDoorLampF
import Derived.Test.YtkonokjhpddbfaaDoorLampG
import Derived.Test.YtkonokjhpddbfaaDoorLampY
namespace Go.Proofs.YtkonokjhpddbfaaDoor
open Go.RowKit
set_option linter.unusedVariables false

theorem layN_length (S : List Nat) (h : S.length = 1024) : (layN S).length = 1024 := by
  unfold layN
  rw [rows_length' (m := 32) 32 (fun a ha => by rw [List.length_append, pcs_length _ _ (by omega), pcs_length _ _ (by omega)])]
theorem layN_lt (S : List Nat) (h : ∀ x ∈ S, x < 256) : ∀ x ∈ layN S, x < 256 := rows_lt (fun a x hx => by
  rcases List.mem_append.1 hx with hx | hx
  · exact pcs_lt S _ h x hx
  · exact pcs_lt S _ h x hx) 32
theorem cutLoO (A : Option Addr) (L c h : Nat) (hh : h ≤ c) (W : World) : (Instr.slice 71 (.slice A L c) none (some (.int .i64 (h : Int))) none).run Tryd.prog W = .ok (.slice A h c) W := by
  obtain ⟨i0, hi, hzz⟩ := Option.map_eq_some_iff.1 Oct.byte_info
  simp only [Prod.mk.injEq] at hzz
  rw [run_slice_h (P := Tryd.prog) W 71 A L c (by kernel_rfl) .i64 (h : Int) (by omega) (by omega), show Tryd.prog.elem 71 = 5 by kernel_rfl]
  cases A <;> simp [sizeOf, typeInfo, hi, sliced, Addr.add]

set_option maxRecDepth 100000 in
set_option maxHeartbeats 1000000 in
theorem lampLong_walk (S : List Nat) (cut : Nat) (w : World) (HTA : Hid (Tab w)) (HL : Hid (S.length = 1024)) (HP : Hid (∀ x ∈ S, x < 256)) (hcut : cut < 65536) :
    Calls Tryd.prog 8 #[.agg (w8 S).toArray, .int .u16 (cut : Int)] w fun e w' => e = .returned (.bool true) ∧ Below w.heap.size w w' := by
  have HAS : Hid ((Tryd.prog.info? 51).map (·.size) = some (w8 S).length) := Lib.hid (by rw [w8_length, HL.out]; exact info51)
  have c1 : (cut : Int) ≤ 65535 := by omega
  obtain ⟨n, hn⟩ : ∃ n, cut % 1024 = n := ⟨_, rfl⟩
  have n1 : (cut : Int).tmod 1024 = (n : Int) := by rw [Int.tmod_eq_emod_of_nonneg (by omega)]; omega
  have n2 : n < 1024 := by omega
  clear hn
  go_enter Tryd.func8, Tryd.ntmps8
  go_upto_region 1 with fail
  have HA : Hid (Blk (w.alloc (.cells (w8 S).toArray 51)) w.heap.size 51 (w8 S)) := Lib.hid (by
    have h := Blk.new w 51 (w8 S)
    exact h)
  have HW : Hid (Below w.heap.size w (w.alloc (.cells (w8 S).toArray 51))) := Lib.hid ((Below.refl _ _).alloc (Nat.le_refl _) _)
  generalize (w.alloc (.cells (w8 S).toArray 51)) = V at HA HW ⊢
  have HAR := Lib.hid HA.out.all
  go_wp2_with (first | (refine wpList_load_mid rfl 51 (.tmp 2) rfl w.heap.size 0 rfl (w8 S) _ HAR.out Tryd.underlying51 rfl HAS.out ?_))
  refine (to_any S V HL).mono ?_
  rintro e w1 ⟨rfl, hB1⟩
  have HW1 := Lib.hid (HW.out.trans (hB1.mono HW.out.size))
  clear hB1 HAR HA HW
  go_wp2_with fail
  refine (lay_lamp S (.slice none 0 0) w1.heap.size [] w1 HL HP (Lib.hid (Oct.Own.nil _ _)) (Nat.le_refl _) (by simp)).mono ?_
  rintro e w2 ⟨v2, rfl, hO2, hg2, hL2⟩
  rw [List.nil_append] at hO2
  have HW2 := Lib.hid (HW1.out.trans ((Oct.grown_below hg2 (Nat.le_refl _) (by intro g hg; cases hg)).mono HW1.out.size))
  have HO2 := Lib.hid (Own.ofOct hO2)
  obtain ⟨A, c, hv2, hc2, hs2⟩ := HO2.out.srcB (b := w2.heap.size) (Nat.le_refl _) (layN_lt S HP.out)
  rw [layN_length S HL.out] at hv2
  subst hv2
  have hcc : 1024 ≤ c := by have := hs2.le; rw [layN_length S HL.out] at this; exact this
  have HOS : Hid (Oct.Src w2 A c (ints ((layN S).take n))) := Lib.hid (by
    refine ⟨fun hA => ?_, ?_⟩
    · rcases hs2.at_ with h | ⟨g, off, h, _⟩
      · have := layN_length S HL.out; rw [h] at this; simp at this
      · rw [hA] at h; cases h
    · rcases hs2.at_ with h | ⟨g, off, h, h3, _, h4⟩
      · left; rw [h]; simp [ints]
      · right
        refine ⟨g, off, h, h3, fun i hi => ?_⟩
        have hl := layN_length S HL.out
        rw [ints_length, List.length_take] at hi
        rw [h4 i (by omega)]
        simp [ints, List.getD, show i < n by omega, show i < (layN S).length by omega])
  have hsl := cutLoO A 1024 c n (by omega)
  clear hO2 hg2 hL2 hs2
  go_wp2_with fail
  refine (Oct.of_any A c n (ints ((layN S).take n)) w2 HOS (Lib.hid (by rw [ints_length, List.length_take, layN_length S HL.out]; omega)) (by omega)).mono ?_
  rintro e w3 ⟨g, rfl, hi3, hB3, hg3⟩
  have HW3 := Lib.hid (HW2.out.trans (hB3.mono HW2.out.size))
  have HI3 : Hid (InK w3 g ((layN S).take n) 0) := Lib.hid (by unfold InK; rw [if_pos (by omega)]; exact hi3)
  have hgw : w.heap.size ≤ g := Nat.le_trans HW2.out.size hg3
  clear hi3 hB3 HOS hsl HO2
  go_wp2_with fail
  refine (take_lamp g ((layN S).take n) w3 HI3).mono ?_
  rintro e w4 ⟨rfl, hi4, hg4⟩
  have HI4 : Hid (Oct.InBad w4 g) := Lib.hid (by
    unfold InK at hi4
    rw [if_neg (by rw [List.length_take, layN_length S HL.out]; omega)] at hi4
    exact hi4)
  have HW4 := Lib.hid (HW3.out.trans (only_up hg4 hgw HW3.out.size))
  clear hi4 hg4
  go_wp2_with fail
  refine (awake4_any w4 (Lib.hid (HTA.out.below HW4.out HTA.out.lt))).mono ?_
  rintro e w5 ⟨rfl, hB5⟩
  have HI5 := Lib.hid (HI4.out.below hB5)
  have HW5 := Lib.hid (HW4.out.trans (hB5.mono HW4.out.size))
  clear hB5
  go_wp2_with fail
  refine (Oct.bad_bad g w5 HI5).mono ?_
  rintro e w6 ⟨rfl, rfl⟩
  go_wp2_with fail
  refine (Oct.left_bad g w5 HI5).mono ?_
  rintro e w6 ⟨rfl, rfl⟩
  go_wp2
  go_ret
  exact ⟨rfl, HW5.out⟩
end Go.Proofs.YtkonokjhpddbfaaDoor
