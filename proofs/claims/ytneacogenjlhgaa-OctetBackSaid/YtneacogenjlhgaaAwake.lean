/-
  tollhouselaw01.awake (function 15): the document's example of octet answers true; memory that was there stays as it was. And string(b) of bytes that are read.
-/
import Derived.Test.YtneacogenjlhgaaOut
import Derived.Lib.SlBytesConst
namespace Go.Proofs.Ytneacogenjlhgaa
open Go.RowKit
set_option linter.unusedVariables false

/-- Bytes as a text. -/
def txt (l : List Int) : ByteArray := l.foldl (fun r n => r.push (UInt8.ofNat n.toNat)) ByteArray.empty

theorem to_string (w : World) (A : Option Addr) (c n : Nat) (l : List Int) (hn : n = l.length) (hS : Src w A c l) : (convert 27 9 (.slice A n c)).run Try.prog w = .ok (.string (txt l)) w := by
  subst hn
  rw [run_convert_bytes_string w 27 9 5 A l.length c Try.underlying27 Try.underlying5 Try.underlying9]
  rcases hS.2 with rfl | ⟨b, off, rfl, _, hc⟩
  · cases A with
    | none => rfl
    | some ad =>
      refine run_bytesToString w ad 0 c [] ?_
      exact run_loadCells_list w ad [] (by simp)
  · refine run_bytesToString w _ l.length c l ?_
    have h := run_loadCells_list (P := Try.prog) w ⟨b, off, none⟩ (l.map (Value.int .u8)) (by
      intro j v hv
      have hj : j < l.length := by
        have := (List.getElem?_eq_some_iff.1 hv).1
        simpa using this
      rw [Go.WideShapes.add_plain, hc j hj, ← hv]
      simp [List.getD, hj])
    simpa using h

theorem Src.litm (w : World) (cs : Array Value) (fr : Nat × Nat) (l : List Int) (h : cs.toList = byt l) : Src (w.alloc (.cells cs 5 fr)) (some ⟨w.heap.size, 0, none⟩) l.length l := by
  refine ⟨fun h => (by cases h), .inr ⟨w.heap.size, 0, rfl, by simp, fun i hi => ?_⟩⟩
  rw [Nat.zero_add, World.cell?_alloc_mark, ← Array.getElem?_toList, h]
  simp [byt, List.getD, hi]

set_option maxRecDepth 100000 in
set_option maxHeartbeats 2000000 in
theorem awake1_any (w : World) : Calls Try.prog 15 #[] w fun e w' => e = .returned (.bool true) ∧ Below w.heap.size w w' := by
  have hconv := fun (w : World) (C : Array Value) (n c : Nat) => Lib.run_convert_bytes_const (P := Try.prog) w 26 5 C n c Try.underlying26 Try.underlying5
  go_enter Try.func15, Try.ntmps15
  go_wp2_with fail
  have hO : Own (w.alloc (.cells #[] 5)) w.heap.size (.slice (some ⟨w.heap.size, 0, none⟩) 0 0) [] := World.ownsRow_lit w #[] 0 (Nat.le_refl _) (by unfold maxLen; omega) rfl
  have hB0 : Below w.heap.size w (w.alloc (.cells #[] 5)) := (Below.refl _ _).alloc (Nat.le_refl _) _
  have HR := Lib.hid (Rd.lit .u32 39 (w.alloc (.cells #[] 5)) #[.int .u32 258] [258] rfl)
  have HO := Lib.hid (hO.below (((Below.refl _ _).alloc (Nat.le_refl _) (.cells #[.int .u32 258] 39))))
  have HB0 := Lib.hid (hB0.alloc (by simp) (.cells #[.int .u32 258] 39))
  clear hO hB0
  have h4 := four_any _ _ 1 w.heap.size [] [258] _ HO.out HR.out (by simp) (by simp) HB0.out.size
  rw [show ([258] : List Int).length = 1 from rfl, show (w.alloc (.cells #[] 5)).heap.size = w.heap.size + 1 by simp] at h4
  ((with_reducible refine h4.mono ?_))
  clear h4
  rintro e w1 ⟨v1, rfl, hO1, hg1, hL1⟩
  have HB1 := Lib.hid (HB0.out.trans (grown_below hg1 HB0.out.size fun g hg => (World.ownsRow.lt HO.out g hg).1))
  rw [List.nil_append] at hO1
  have HO1 := Lib.hid hO1
  clear hO1 hg1 hL1
  go_wp2_with fail
  have hS1 := Src.litm w1 #[.int .u8 97] (1, 2) [97] rfl
  have HS2 := Lib.hid (hS1.below ((Below.refl _ _).alloc (Nat.le_refl _) (.cells #[.slice (some ⟨w1.heap.size, 0, none⟩) 1 1] 26)))
  have HB2 := Lib.hid ((HB1.out.alloc HB1.out.size (.cells #[.int .u8 97] 5 (1, 2))).alloc (by have := HB1.out.size; simp; omega) (.cells #[.slice (some ⟨w1.heap.size, 0, none⟩) 1 1] 26))
  have HO2 := Lib.hid (HO1.out.below (((Below.refl _ _).alloc (Nat.le_refl _) (.cells #[.int .u8 97] 5 (1, 2))).alloc (by simp) (.cells #[.slice (some ⟨w1.heap.size, 0, none⟩) 1 1] 26)))
  clear hS1
  have h5 := blob_any _ _ (w1.heap.size + 1) 1 w.heap.size 1 (be4s [258]) [97] _ HO2.out (by simp) (by simp) rfl HS2.out (by simp [be4s, be4]) (by simp) HB2.out.size
  ((with_reducible refine h5.mono ?_))
  clear h5
  rintro e w2 ⟨v2, rfl, hO3, hg3, hL3⟩
  have HB3 := Lib.hid (HB2.out.trans (grown_below hg3 HB2.out.size fun g hg => (World.ownsRow.lt HO2.out g hg).1))
  obtain ⟨A, c, hv, hS⟩ := hO3.src
  subst hv
  have hcv := to_string w2 A c _ _ rfl hS
  have hx : be4s [258] ++ (be4 (([97] : List Int).length : Int) ++ [97]) = [0, 0, 1, 2, 0, 0, 0, 1, 97] := by decide
  rw [hx] at hcv
  rw [hx]
  have ht : txt [0, 0, 1, 2, 0, 0, 0, 1, 97] = ⟨#[0, 0, 1, 2, 0, 0, 0, 1, 97]⟩ := by decide
  rw [ht, show ([0, 0, 1, 2, 0, 0, 0, 1, 97] : List Int).length = 9 from rfl] at hcv
  clear hO3 hg3 hL3 hS hx ht
  go_wp2
  go_ret
  exact ⟨rfl, HB3.out⟩
end Go.Proofs.Ytneacogenjlhgaa
