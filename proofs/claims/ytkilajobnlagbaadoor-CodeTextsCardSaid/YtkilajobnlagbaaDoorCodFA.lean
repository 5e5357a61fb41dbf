/-
  The document's Names 32, Decimal 33.
-/
import Derived.Test.YtkilajobnlagbaaDoorCodEJ
import Derived.Test.YtkilajobnlagbaaDoorCodX
namespace Go.Proofs.YtkilajobnlagbaaDoor
open Go.RowKit
set_option linter.unusedVariables false

def nmsL : List Value := (List.range 18).map fun k => .string (nm k)
theorem nmsL_get (k : Nat) (h : k < 18) : nmsL[k]? = some (.string (nm k)) := by simp [nmsL, h]
set_option maxRecDepth 100000 in
set_option maxHeartbeats 4000000 in
theorem names_any (w : World) : Calls Tryd.prog 32 #[] w fun e w' => e = .returned (.slice (some ⟨w.heap.size, 0, none⟩) 18 18) ∧ Blk w' w.heap.size 9 nmsL ∧ Below w.heap.size w w' := by
  go_enter Tryd.func32, Tryd.ntmps32
  go_wp2_with fail
  go_ret
  exact ⟨rfl, Blk.new w 9 nmsL, up1 w _⟩

theorem tx_one (a : Int) : (txtI [a]).data.toList = [UInt8.ofNat a.toNat] := rfl
theorem tx_app (a b : ByteArray) : (a ++ b).data.toList = a.data.toList ++ b.data.toList := by simp
theorem dec_step (n : Nat) (h : 9 < n) : Lib.decDigits n = Lib.decDigits (n / 10) ++ [UInt8.ofNat (48 + n % 10)] := by
  rw [Lib.decDigits, dif_neg (by omega)]
theorem dec_last (n : Nat) (h : ¬ 9 < n) : Lib.decDigits n = [UInt8.ofNat (48 + n)] := by
  rw [Lib.decDigits, dif_pos (by omega)]
theorem one_src (w : World) (x : Int) : Oct.Src (w.alloc (.cells #[.int .u8 x] 5)) (some ⟨w.heap.size, 0, none⟩) 1 [x] := Oct.Src.one w x

set_option maxRecDepth 100000 in
set_option maxHeartbeats 4000000 in
theorem rdec_any (u : Nat) (w : World) (hu : u < 18446744073709551616) : Calls Tryd.prog 33 #[.int .u64 (u : Int)] w fun e w' => e = .returned (.string ⟨(Lib.decDigits u).toArray⟩) ∧ Below w.heap.size w w' := by
  obtain ⟨X, hX⟩ : ∃ X : Int, X = (u : Int) := ⟨_, rfl⟩
  rw [← hX]
  have HX := Lib.hid hX
  have HU := Lib.hid hu
  clear hX hu
  go_enter Tryd.func33, Tryd.ntmps33
  go_wp2_with fail
  go_loopw [0, 3] (fun a s wr => ∃ (x : Int) (n : Nat) (S : ByteArray), a = .int .u64 x ∧ s = .string S ∧ Hid (x = (n : Int)) ∧ Hid (n < 18446744073709551616) ∧ Hid (Lib.decDigits u = Lib.decDigits n ++ S.data.toList) ∧ Hid (Below w.heap.size w wr)) (fun a _ _ => (intOf a).toNat)
  case atStart => exact ⟨X, u, ⟨#[]⟩, rfl, rfl, HX, HU, Lib.hid (by simp), Lib.hid (Below.refl _ _)⟩
  case round =>
    obtain ⟨x, n, S, rfl, rfl, HN, HL, HS, HB⟩ := hrel
    have n0 : (0 : Int) ≤ x := by have := HN.out; omega
    have n1 : x < 18446744073709551616 := by have := HN.out; have := HL.out; omega
    have sS : S.size ≤ 20 := by
      have h1 := dec_le u HU.out
      rw [HS.out, List.length_append] at h1
      have h2 : S.data.toList.length = S.size := by rw [Array.length_toList]; rfl
      omega
    by_cases h9 : 9 < x
    · obtain ⟨d, hd⟩ : ∃ d, x % 10 = d := ⟨_, rfl⟩
      obtain ⟨q, hq⟩ : ∃ d, x / 10 = d := ⟨_, rfl⟩
      have d0 : (0 : Int) ≤ d := by omega
      have d1 : d < 10 := by omega
      have q0 : (0 : Int) ≤ q := by omega
      have q1 : q < 18446744073709551616 := by omega
      have hcv := fun y : Int => conv_any _ _ 1 1 [y] rfl (one_src wr y)
      have sT : (txtI [48 + d]).size = 1 := rfl
      go_wp2_with fail
      have hs := HS.out
      have hn := HN.out
      have hB : Below w.heap.size w (wr.alloc (.cells #[.int .u8 (48 + d)] 5)) := HB.out.alloc HB.out.size _
      refine ⟨⟨x / 10, n / 10, txtI [48 + d] ++ S, rfl, rfl, Lib.hid (by omega), Lib.hid (by have := HL.out; omega), Lib.hid ?_, Lib.hid hB⟩, ?_⟩
      · rw [hs, dec_step n (by omega), tx_app, tx_one, show (48 + d).toNat = 48 + n % 10 by omega, List.append_assoc]
      · show (x / 10).toNat < x.toNat
        omega
    · have hcv := fun y : Int => conv_any _ _ 1 1 [y] rfl (one_src wr y)
      have sT : (txtI [48 + x]).size = 1 := rfl
      go_wp2_with fail
      go_ret
      have hs := HS.out
      have hn := HN.out
      have e : (⟨(Lib.decDigits u).toArray⟩ : ByteArray) = txtI [48 + x] ++ S := ba_ext (by
        rw [tx_app, tx_one, show (48 + x).toNat = 48 + n by omega, ← dec_last n (by omega), ← hs])
      rw [e]
      exact ⟨rfl, HB.out.alloc HB.out.size _⟩
end Go.Proofs.YtkilajobnlagbaaDoor
