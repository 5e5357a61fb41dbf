/-
  numberOf: the number that at most eight bytes are.
-/
import Derived.Test.YtkilajobnlagbaaDoorOctInLib
namespace Go.Proofs.YtkilajobnlagbaaDoor.Oct
open Go.RowKit
set_option linter.unusedVariables false

theorem numB_append (a b : List Int) (n : Int) : numB (a ++ b) n = numB b (numB a n) := by
  induction a generalizing n with
  | nil => rfl
  | cons x r ih => exact ih _
theorem numB_zeros (k : Nat) : numB (List.replicate k 0) 0 = 0 := by
  induction k with
  | zero => rfl
  | succ k ih => rw [List.replicate_succ]; exact ih

theorem eightb_in (g : Nat) (l ys : List Int) (w : World) (HI : Hid (InAt w g (l ++ ys))) (HN : Hid (l.length = 8)) (HB : Hid (∀ b ∈ l, 0 ≤ b ∧ b < 256)) :
    Calls Tryd.prog 61 #[.pointer (some ⟨g, 0, none⟩)] w fun r w' => r = .returned (.int .u64 (numB l 0)) ∧ InAt w' g ys ∧ w.grownBy w' (some g) := by
  go_enter Tryd.func61, Tryd.ntmps61
  go_wp2_with fail
  refine (next_any g 8 l ys w HI HN).mono ?_
  rintro e w1 ⟨A, c, rfl, hs, hi, hg⟩
  have HSR := Lib.hid hs
  have HI1 := Lib.hid hi
  have HG1 := Lib.hid hg
  clear hs hi hg
  go_wp2_with fail
  refine (number_any A c 8 l w1 HSR HN (by omega) HB).mono ?_
  rintro e w2 ⟨rfl, rfl⟩
  go_wp2
  go_ret
  exact ⟨rfl, HI1.out, HG1.out⟩

def z8 : List Int := List.replicate 8 0
theorem z8_splice (l : List Int) (n : Nat) (hn : l.length = n) (h : n ≤ 8) : splice (byt z8) (8 - n) (byt l) = byt (List.replicate (8 - n) 0 ++ l) := by
  subst hn
  unfold splice byt z8
  rw [List.length_map, List.drop_eq_nil_of_le (by simp; omega), List.append_nil, ← List.map_take, List.take_replicate, Nat.min_eq_left (by omega), List.map_append]
def off8 (n : Nat) : Nat := if n = 0 then 0 else 8 - n
theorem cut110 (g n : Nat) (hn : n ≤ 8) (W : World) : (Instr.sliceAt 110 (.pointer (some ⟨g, 0, none⟩)) (some (.int .i64 (8 - (n : Int)))) none none).run Tryd.prog W = .ok (.slice (some ⟨g, off8 n, none⟩) n n) W := by
  obtain ⟨i0, hi, hzz⟩ := Option.map_eq_some_iff.1 byte_info
  simp only [Prod.mk.injEq] at hzz
  obtain ⟨hz0, hz1, hz2⟩ := hzz
  have e8 : Tryd.prog.arrayLen 110 = 8 := by kernel_rfl
  rw [run_sliceAt_array_l (P := Tryd.prog) W 110 ⟨g, 0, none⟩ (by kernel_rfl) .i64 (8 - (n : Int)) (by omega) (by rw [e8]; omega), e8, show Tryd.prog.elem 110 = 5 by kernel_rfl]
  obtain ⟨k, hk⟩ : ∃ k : Nat, 8 - n = k := ⟨_, rfl⟩
  have e1 : (8 - (n : Int)).toNat = k := by omega
  have e2 : 8 - k = n := by omega
  rw [e1]
  by_cases e : n = 0
  · subst e
    obtain rfl : k = 8 := by omega
    simp [sizeOf, typeInfo, hi, hz1, slicedAt, off8]
  · have e3 : ¬ (8 = k) := by omega
    have e4 : off8 n = k := by unfold off8; rw [if_neg e]; exact hk
    simp [sizeOf, typeInfo, hi, hz1, slicedAt, e2, e3, e4, Go.WideShapes.add_plain]

set_option maxRecDepth 100000 in
set_option maxHeartbeats 1000000 in
theorem numberOf_any (A : Option Addr) (c n : Nat) (l : List Int) (w : World) (HS : Hid (Src w A c l)) (HN : Hid (l.length = n)) (hn : n ≤ 8) (HB : Hid (∀ b ∈ l, 0 ≤ b ∧ b < 256)) :
    Calls Tryd.prog 37 #[.slice A n c] w fun r w' => r = .returned (.int .u64 (numB l 0)) ∧ Below w.heap.size w w' := by
  have hcut := cut110 w.heap.size n hn
  have hall := fun W => run_sliceAt_array_all (P := Tryd.prog) W 110 ⟨w.heap.size, 0, none⟩ (by kernel_rfl)
  have e8 : Tryd.prog.arrayLen 110 = 8 := by kernel_rfl
  have e5 : Tryd.prog.elem 110 = 5 := by kernel_rfl
  obtain ⟨i0, hi, hz0, hz1, hz2⟩ := info_parts byte_info
  go_enter Tryd.func37, Tryd.ntmps37
  go_upto_region 2 with fail
  have HB0 : Hid (Below w.heap.size w (w.alloc (.cells (#[.int .u8 0, .int .u8 0, .int .u8 0, .int .u8 0, .int .u8 0, .int .u8 0, .int .u8 0, .int .u8 0]) 110))) := Lib.hid ((Below.refl _ _).alloc (Nat.le_refl _) _)
  have HC0 : Hid (Bk (w.alloc (.cells (#[.int .u8 0, .int .u8 0, .int .u8 0, .int .u8 0, .int .u8 0, .int .u8 0, .int .u8 0, .int .u8 0]) 110)) w.heap.size 110 (byt z8)) := Lib.hid (Bk.new w 110 (byt z8))
  generalize w.alloc (.cells (#[.int .u8 0, .int .u8 0, .int .u8 0, .int .u8 0, .int .u8 0, .int .u8 0, .int .u8 0, .int .u8 0]) 110) = V at HB0 HC0 ⊢
  have HC0' : Hid (V.heap[w.heap.size]? = some (.cells (byt z8).toArray 110 (0, 0))) := Lib.hid HC0.out
  have HSV := Lib.hid (HS.out.below HB0.out)
  have HL1 : Hid ((byt l).length = Nat.min n n) := Lib.hid (by simp [byt, HN.out])
  have HPS : Hid (0 < (byt l).length → (some ⟨w.heap.size, off8 n, none⟩ : Option Addr) = some ⟨w.heap.size, 8 - n, none⟩ ∧ ∃ ad, A = some ad ∧ ∀ j v, (byt l)[j]? = some v → V.cell? (ad.add j) = some v) := Lib.hid fun h => ⟨by rw [off8, if_neg (by simp [byt, HN.out] at h; omega)], HSV.out.cells h⟩
  have HFT : Hid (8 - n + (byt l).length ≤ (byt z8).length) := Lib.hid (by simp [byt, HN.out, z8]; omega)
  have HO1 := Lib.hid (byt_one l)
  go_wp2_with (with_reducible refine wpList_copy_splice rfl (.tmp 7) (.tmp 8) 22 22 rfl 5 Tryd.underlying22 info5 (some ⟨w.heap.size, off8 n, none⟩) A n n n c rfl rfl w.heap.size (8 - n) _ 110 HC0'.out (byt l) HL1.out HPS.out HFT.out HO1.out w.heap.size w HB0.out (Nat.le_refl _) ?_)
  intro V1 HC1 hB1
  have HB1 := Lib.hid hB1
  have HR1 : Hid (Bk V1 w.heap.size 110 (byt (List.replicate (8 - n) 0 ++ l))) := Lib.hid (by
    have h := HC1.out
    rw [z8_splice l n HN.out hn] at h
    exact h)
  have HSR : Hid (Src V1 (some ⟨w.heap.size, 0, none⟩) 8 (List.replicate (8 - n) 0 ++ l)) := Lib.hid (Src.bk HR1.out (by simp [HN.out]; omega))
  clear hB1 HC1 hcut
  go_wp2_with fail
  have HN8 : Hid ((List.replicate (8 - n) 0 ++ l).length = 8) := Lib.hid (by simp [HN.out]; omega)
  refine (of_any (some ⟨w.heap.size, 0, none⟩) 8 8 _ V1 HSR HN8 (by omega)).mono ?_
  rintro e V2 ⟨g, rfl, hi2, hB2, hg2⟩
  have HI2 : Hid (InAt V2 g ((List.replicate (8 - n) 0 ++ l) ++ [])) := Lib.hid (by rw [List.append_nil]; exact hi2)
  have HB2 := Lib.hid (HB1.out.trans (hB2.mono HB1.out.size))
  have hgw := Nat.le_trans HB1.out.size hg2
  clear hi2 hB2
  go_wp2_with fail
  refine (eightb_in g _ [] V2 HI2 HN8 (Lib.hid (by
    intro b hb
    rcases List.mem_append.1 hb with hb | hb
    · rw [List.eq_of_mem_replicate hb]; omega
    · exact HB.out b hb))).mono ?_
  rintro e V3 ⟨rfl, _, hg3⟩
  rw [numB_append, numB_zeros]
  have HB3 := Lib.hid (HB2.out.grown hg3 HB2.out.size (fun k hk => by injection hk with hk; omega))
  clear hg3
  go_wp2
  go_ret
  exact ⟨rfl, HB3.out⟩
end Go.Proofs.YtkilajobnlagbaaDoor.Oct
