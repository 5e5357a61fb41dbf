/-
  tollhouseref03.Text (function 20): what is summed for a domain of parts is the text as the program sums it; nothing that was there is written.
-/
import Derived.Test.YtbdjlnejlkiijaaDoorRRRForOf
import Derived.Laws.IdiomStrings
namespace Go.Proofs.YtbdjlnejlkiijaaDoorRRR
open Go.RowKit
set_option linter.unusedVariables false

theorem text_take (d : Nat) (ps : List (List Nat)) (k : Nat) : ([d, ps.length % 256] ++ laidParts (ps.take k)).length = 2 + (ps.take k).flatten.length + 4 * (ps.take k).length := by
  rw [List.length_append, laidParts_length]
  simp only [List.length_cons, List.length_nil]
  omega

theorem Own.two (w : World) (a b : Nat) : Own (w.alloc (.cells (w8 [a, b]).toArray 5)) w.heap.size (.slice (some ⟨w.heap.size, 0, none⟩) 2 2) [a, b] := World.ownsRow_lit w (w8 [a, b]).toArray 2 (Nat.le_refl _) (by unfold maxLen; omega) rfl

set_option maxRecDepth 100000 in
set_option maxHeartbeats 4000000 in
theorem text_any (d m c b : Nat) (A : Option Addr) (ps : List (List Nat)) (w : World) (hd : d < 256) (HP : Hid (Parts w b A ps)) (HM : Hid (ps.length = m)) (hm : m ≤ 1000000) (HN : Hid (ps.flatten.length ≤ 1000000000)) :
    Calls Tryd.prog 54 #[.int .u8 (d : Int), .slice A m c] w fun e w' => ∃ v, e = .returned v ∧ Own w' w.heap.size v (text d ps) ∧ Below w.heap.size w w' := by
  have d1 : (d : Int) ≤ 255 := by omega
  obtain ⟨mm, hmm⟩ : ∃ mm, m % 256 = mm := ⟨_, rfl⟩
  have hmI : (m : Int) % 256 = (mm : Int) := by omega
  have hmm2 : mm < 256 := by omega
  have HMM : Hid (ps.length % 256 = mm) := Lib.hid (by rw [HM.out]; exact hmm)
  clear hmm
  go_enter Tryd.func54, Tryd.ntmps54
  go_wp2_with fail
  have HO0 : Hid (Own (w.alloc (.cells #[.int .u8 (d : Int), .int .u8 (mm : Int)] 5)) w.heap.size (.slice (some ⟨w.heap.size, 0, none⟩) 2 2) [d, mm]) := Lib.hid (Own.two w d mm)
  have HB0 : Hid (Below w.heap.size w (w.alloc (.cells #[.int .u8 (d : Int), .int .u8 (mm : Int)] 5))) := Lib.hid ((Below.refl _ _).alloc (Nat.le_refl _) _)
  generalize w.alloc (.cells #[.int .u8 (d : Int), .int .u8 (mm : Int)] 5) = w0 at HO0 HB0 ⊢
  clear hmI
  go_loopw [6, 5, 7] (fun i t _ wr => ∃ (k : Nat), k ≤ m ∧ i = .int .i64 k ∧ Hid (Own wr w.heap.size t ([d, mm] ++ laidParts (ps.take k))) ∧ Hid (Below w.heap.size w wr)) (fun i _ _ _ => m - (intOf i).toNat)
  case atStart => exact ⟨0, Nat.zero_le _, rfl, HO0, HB0⟩
  case round =>
    obtain ⟨k, hk, rfl, HO, HW⟩ := hrel
    by_cases hlt : k < m
    · have hkp : k < ps.length := by rw [HM.out]; exact hlt
      obtain ⟨g, off, Ai, ci, hA, hg, hcell, hci, hsrc⟩ := HP.out.at2 HW.out k hkp (B := w.heap.size) (Nat.le_refl _)
      obtain ⟨x, hx⟩ : ∃ x, ps.getD k [] = x := ⟨_, rfl⟩
      obtain ⟨n, hn⟩ : ∃ n, x.length = n := ⟨_, rfl⟩
      have hnb : n ≤ 1000000000 := by have h1 := flatten_part ps k x hkp hx; have h2 := HN.out; omega
      have HTK := Lib.hid (laidParts_take ps k x hkp hx)
      have HLE : Hid (([d, mm] ++ laidParts (ps.take k)).length + (four n).length + x.length ≤ 140737488355328) := Lib.hid (by
        have h1 := flatten_take_le ps k
        have h2 := HN.out
        have e4 : (four n).length = 4 := rfl
        have e2 : [d, mm].length = 2 := rfl
        have e3 := Nat.min_le_left k ps.length
        rw [List.length_append, laidParts_length, List.length_take, e4, e2, hn]
        omega)
      rw [hx, hn] at hcell
      rw [hx] at hsrc
      have HX := Lib.hid hn
      have HSR := Lib.hid (hsrc.below HW.out)
      have n1 : (n : Int) ≤ 1000000000 := by omega
      obtain ⟨f0, e0⟩ : ∃ y, n / 16777216 = y := ⟨_, rfl⟩
      obtain ⟨f1, e1⟩ : ∃ y, n / 65536 % 256 = y := ⟨_, rfl⟩
      obtain ⟨f2, e2⟩ : ∃ y, n / 256 % 256 = y := ⟨_, rfl⟩
      obtain ⟨f3, e3⟩ : ∃ y, n % 256 = y := ⟨_, rfl⟩
      have i0 : (n : Int) / 16777216 % 256 = (f0 : Int) := by omega
      have i1 : (n : Int) / 65536 % 256 = (f1 : Int) := by omega
      have i2 : (n : Int) / 256 % 256 = (f2 : Int) := by omega
      have i3 : (n : Int) % 256 = (f3 : Int) := by omega
      have i4 : (n : Int) / 16777216 = (f0 : Int) := by omega
      have HF4 : Hid (four n = [f0, f1, f2, f3]) := Lib.hid (by unfold four; rw [e0, e1, e2, e3])
      have HSW := Lib.hid hsrc
      have hcw : w.cell? ⟨g, off + k, none⟩ = some (.slice Ai n ci) ∧ g < w.heap.size := by
        rcases HP.out.at_ with h0 | ⟨g', off', hA', hg', _, _⟩
        · rw [h0] at hkp; simp at hkp
        · rw [hA] at hA'
          injection hA' with hA'
          injection hA' with e1 e2
          subst e1; subst e2
          exact ⟨by rw [← HW.out.cell (p := ⟨g, off + k, none⟩) hg']; exact hcell, hg'⟩
      obtain ⟨hcw1, hcw2⟩ := hcw
      have HCW := Lib.hid hcw1
      have HOA := Lib.hid (HO.out.below ((Below.refl _ _).alloc (Nat.le_refl _) (.cells #[.int .u8 (f0 : Int), .int .u8 (f1 : Int), .int .u8 (f2 : Int), .int .u8 (f3 : Int)] 5)))
      have HWA := Lib.hid (HW.out.alloc HW.out.size (.cells #[.int .u8 (f0 : Int), .int .u8 (f1 : Int), .int .u8 (f2 : Int), .int .u8 (f3 : Int)] 5))
      have HS4 : Hid (Src (wr.alloc (.cells #[.int .u8 (f0 : Int), .int .u8 (f1 : Int), .int .u8 (f2 : Int), .int .u8 (f3 : Int)] 5)) (wr.heap.size + 1) (some ⟨wr.heap.size, 0, none⟩) 4 [f0, f1, f2, f3]) := Lib.hid (Src.blk (rest := []) (by rw [List.append_nil]; exact Blk.new wr 5 (w8 [f0, f1, f2, f3])) (by omega) (by rw [← HF4.out]; exact four_lt n (by omega)) 4 (by simp))
      have HL4 : Hid (([d, mm] ++ laidParts (ps.take k)).length + [f0, f1, f2, f3].length ≤ 140737488355328) := Lib.hid (by have h1 := HLE.out; rw [HF4.out] at h1; omega)
      have HLX : Hid (([d, mm] ++ laidParts (ps.take k) ++ [f0, f1, f2, f3]).length + x.length ≤ 140737488355328) := Lib.hid (by have h1 := HLE.out; rw [HF4.out] at h1; rw [List.length_append]; omega)
      subst hA
      clear hx hn hsrc hkp e0 e1 e2 e3 hcw1
      go_upto_region 7 with (at_builtin; refine wpList_app rfl (.tmp 24) (.tmp 36) rfl w.heap.size (wr.heap.size + 1) _ _ [f0, f1, f2, f3] rfl HOA.out (some ⟨wr.heap.size, 0, none⟩) 4 4 rfl rfl HS4.out HL4.out HWA.out.size ?_; intro v2 w2 HO2 HG2 HL2)
      have HW2 : Hid (Below w.heap.size w w2) := Lib.hid (HWA.out.grown HG2.out HWA.out.size fun g' hg' => (HOA.out.base_ hg').1)
      have hc2 : w2.cell? ⟨g, off + k, none⟩ = some (.slice Ai n ci) := (HW2.out.cell (p := ⟨g, off + k, none⟩) hcw2).trans HCW.out
      have hg2 : g < w2.heap.size := Nat.lt_of_lt_of_le hcw2 HW2.out.size
      have HSX := Lib.hid (HSW.out.below HW2.out)
      clear hcell HOA HWA HS4 HG2 HL2 i0 i1 i2 i3 i4 hg
      go_wp2_with (at_builtin; refine wpList_app rfl (.tmp 38) (.tmp 42) rfl w.heap.size w.heap.size _ _ x rfl HO2.out Ai n ci rfl HX.out.symm HSX.out HLX.out HW2.out.size ?_)
      intro v3 w3 HO3 HG3 HL3
      have HW3 : Hid (Below w.heap.size w w3) := Lib.hid (HW2.out.grown HG3.out HW2.out.size fun g' hg' => (HO2.out.base_ hg').1)
      have HO4 : Hid (Own w3 w.heap.size v3 ([d, mm] ++ laidParts (ps.take (k + 1)))) := Lib.hid (by
        have h := HO3.out
        have e : [d, mm] ++ laidParts (ps.take (k + 1)) = d :: mm :: (laidParts (ps.take k) ++ f0 :: f1 :: f2 :: f3 :: x) := by rw [HTK.out, HX.out, HF4.out]; simp
        rw [e]
        exact h)
      clear HO3 HG3 HL3 hc2
      go_wp2
      go_roundw
      case rel =>
        exact ⟨k + 1, by omega, by go_num, HO4, HW3⟩
      case measure => simp [intOf]; omega
    · have htk : ps.take k = ps := List.take_of_length_le (by rw [HM.out]; omega)
      rw [htk, show [d, mm] ++ laidParts ps = text d ps by unfold text; rw [HMM.out]] at HO
      clear htk
      go_wp2
      go_ret
      exact ⟨_, rfl, HO.out, HW.out⟩
end Go.Proofs.YtbdjlnejlkiijaaDoorRRR
