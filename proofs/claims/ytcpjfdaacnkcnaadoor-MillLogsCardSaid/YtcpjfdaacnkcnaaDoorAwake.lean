/-
  The statements awake (function 9): the document's example holds; nothing that was there is written.
-/
import Derived.Test.YtcpjfdaacnkcnaaDoorOf
import Derived.Lib.SlBytesConst
namespace Go.Proofs.YtcpjfdaacnkcnaaDoor
open Go.RowKit
set_option linter.unusedVariables false

theorem Parts.one {w : World} {b g : Nat} {t : TypeId} {Ai : Option Addr} {ci n : Nat} {x : List Nat} (h : Blk w g t [.slice Ai n ci]) (hn : n = x.length) (hb : g ≠ b) (hc : ci ≤ 9223372036854775807) (hs : Src w b Ai ci x) : Parts w b (some ⟨g, 0, none⟩) [x] := by
  subst hn
  refine ⟨.inr ⟨g, 0, rfl, h.lt, hb, fun i hi => ?_⟩⟩
  obtain rfl : i = 0 := by simpa using hi
  exact ⟨Ai, ci, by rw [h.cell]; rfl, hc, hs⟩

set_option maxRecDepth 100000 in
set_option maxHeartbeats 2000000 in
theorem awake_any (w : World) (HT : Hid (Tab w)) : Calls Tryd.prog 9 #[] w fun e w' => e = .returned (.bool true) ∧ Below w.heap.size w w' := by
  have hconv := fun (w : World) (C : Array Value) (n c : Nat) => Lib.run_convert_bytes_const (P := Tryd.prog) w 22 5 C n c Tryd.underlying22 Tryd.underlying5
  go_enter Tryd.func9, Tryd.ntmps9
  go_wp2_with fail
  have hP := Blk.new (w.alloc (.cells (w8 [97, 98, 99]).toArray 5 (3, 3 + 1))) 22 [.slice (some ⟨w.heap.size, 0, none⟩) 3 3]
  have HB := Lib.hid (((Below.refl w.heap.size w).alloc (Nat.le_refl _) (.cells (w8 [97, 98, 99]).toArray 5 (3, 3 + 1))).alloc (by simp) (.cells #[.slice (some ⟨w.heap.size, 0, none⟩) 3 3] 22))
  rw [World.size_alloc] at hP
  have hS : Src ((w.alloc (.cells (w8 [97, 98, 99]).toArray 5 (3, 3 + 1))).alloc (.cells #[.slice (some ⟨w.heap.size, 0, none⟩) 3 3] 22)) (w.heap.size + 2) (some ⟨w.heap.size, 0, none⟩) 3 [97, 98, 99] :=
    ⟨by decide, .inr ⟨w.heap.size, 0, rfl, by simp; omega, by omega, fun i hi => by
      rw [World.cell?_alloc_lt _ _ _ (by simp), Nat.zero_add, cell_of_row _ _ i _ _ _ (heap_alloc_last w _), ← w8_get _ i hi]
      simp⟩, by decide⟩
  have HPP := Lib.hid (Parts.one (b := w.heap.size + 2) (x := [97, 98, 99]) hP rfl (by omega) (by omega) hS)
  have HTT := Lib.hid (HT.out.below HB.out HT.out.lt)
  refine (of_any 1 1 (w.heap.size + 2) _ [[97, 98, 99]] _ HTT HPP (Lib.hid rfl) (by omega) (Lib.hid (by simp))).mono ?_
  rintro e V ⟨rfl, hB1⟩
  have HB1 := Lib.hid (HB.out.trans (hB1.mono (by simp; omega)))
  rw [show ([[97, 98, 99]] : List (List Nat)).flatten = [97, 98, 99] from rfl]
  clear hB1 hP hS hconv
  have HLA := Lib.hid (heap_alloc_last V (.cells zsum 25))
  have HS6 : Hid ((Tryd.prog.info? 25).map (·.size) = some (w8 (sha [97, 98, 99])).toArray.size) := Lib.hid (by rw [List.size_toArray, w8_length, sha_length]; exact info25)
  have HZ6 : Hid (zsum.size = (w8 (sha [97, 98, 99])).toArray.size) := Lib.hid (by have hz : zsum.size = 32 := rfl; rw [hz, List.size_toArray, w8_length, sha_length])
  have HO6 := Lib.hid (all_oneCell_toArray (w8_one (sha [97, 98, 99])))
  go_upto_region 2 with (first | (refine wpList_store_row rfl 25 (.tmp 1) (.tmp 5) rfl V.heap.size (w8 (sha [97, 98, 99])).toArray rfl rfl 25 _ HLA.out HS6.out HZ6.out HO6.out ?_; rw [World.setRow_alloc_new]))
  have hD := Blk.new V 25 (w8 (sha [97, 98, 99]))
  have HB2 := Lib.hid (HB1.out.alloc HB1.out.size (.cells (w8 (sha [97, 98, 99])).toArray 25))
  have hl := sha_length [97, 98, 99]
  obtain ⟨a0, a1, a2, a3, a4, a5⟩ := abc
  have c0 := hD.cell 0
  have c1 := hD.cell 1
  have c2 := hD.cell 2
  have c3 := hD.cell 3
  have c4 := hD.cell 30
  have c5 := hD.cell 31
  rw [w8_get _ _ (by omega)] at c0 c1 c2 c3 c4 c5
  rw [a0] at c0
  rw [a1] at c1
  rw [a2] at c2
  rw [a3] at c3
  rw [a4] at c4
  rw [a5] at c5
  clear hD hl a0 a1 a2 a3 a4 a5 HLA HS6 HZ6 HO6
  generalize V.alloc (.cells (w8 (sha [97, 98, 99])).toArray 25) = V1 at c0 c1 c2 c3 c4 c5 HB2 ⊢
  go_wp2
  go_ret
  exact ⟨rfl, HB2.out⟩
end Go.Proofs.YtcpjfdaacnkcnaaDoor
