/-
  mill.For (function 16) and mill.Lock (function 18): the sum for a domain of parts is that of the document's text; nothing that was there is written.
-/
import Derived.Test.YtbdjlnejlkiijaaDoorRRRCame
namespace Go.Proofs.YtbdjlnejlkiijaaDoorRRR
open Go.RowKit
set_option linter.unusedVariables false

/-- What is summed of parts for a domain. -/
def laidParts (ps : List (List Nat)) : List Nat := ps.flatMap fun p => four p.length ++ p
def text (d : Nat) (ps : List (List Nat)) : List Nat := [d, ps.length % 256] ++ laidParts ps

theorem laidParts_length (ps : List (List Nat)) : (laidParts ps).length = ps.flatten.length + 4 * ps.length := by
  induction ps with
  | nil => rfl
  | cons p r ih =>
    simp [laidParts, four] at ih ⊢
    omega
theorem laidParts_take (ps : List (List Nat)) (k : Nat) (x : List Nat) (hk : k < ps.length) (hx : ps.getD k [] = x) : laidParts (ps.take (k + 1)) = laidParts (ps.take k) ++ (four x.length ++ x) := by
  have e : ps[k] = x := by rw [← hx]; simp [List.getD, hk]
  rw [List.take_succ_eq_append_getElem hk, e]
  simp [laidParts]
theorem text_length (d : Nat) (ps : List (List Nat)) : (text d ps).length = 2 + ps.flatten.length + 4 * ps.length := by
  unfold text
  rw [List.length_append, laidParts_length]
  simp
  omega
theorem flatten_part (ps : List (List Nat)) (k : Nat) (x : List Nat) (hk : k < ps.length) (hx : ps.getD k [] = x) : x.length ≤ ps.flatten.length := by
  have := flatten_le ps k hk
  rw [hx] at this
  omega
theorem flatten_take_le (ps : List (List Nat)) (k : Nat) : (ps.take k).flatten.length ≤ ps.flatten.length := by
  have h : ps.flatten = (ps.take k).flatten ++ (ps.drop k).flatten := by rw [← List.flatten_append, List.take_append_drop]
  rw [h]
  simp

theorem Parts.two' {w : World} {b g : Nat} {t : TypeId} {A1 A2 : Option Addr} {c1 c2 n1 n2 : Nat} {x1 x2 : List Nat} (h : Blk w g t [.slice A1 n1 c1, .slice A2 n2 c2]) (hn1 : n1 = x1.length) (hn2 : n2 = x2.length) (hb : g ≠ b) (hc1 : c1 ≤ 9223372036854775807) (hc2 : c2 ≤ 9223372036854775807) (hs1 : Src w b A1 c1 x1) (hs2 : Src w b A2 c2 x2) : Parts w b (some ⟨g, 0, none⟩) [x1, x2] := by
  subst hn1; subst hn2
  refine ⟨.inr ⟨g, 0, rfl, h.lt, hb, fun i hi => ?_⟩⟩
  match i, hi with
  | 0, _ => exact ⟨A1, c1, by rw [h.cell]; rfl, hc1, hs1⟩
  | 1, _ => exact ⟨A2, c2, by rw [h.cell]; rfl, hc2, hs2⟩
theorem Parts.at2 {w wr : World} {b B : Nat} {A : Option Addr} {ps : List (List Nat)} (h : Parts w b A ps) (hB : Below w.heap.size w wr) (k : Nat) (hk : k < ps.length) (hbb : w.heap.size ≤ B) :
    ∃ g off Ai ci, A = some ⟨g, off, none⟩ ∧ g < wr.heap.size ∧ wr.cell? ⟨g, off + k, none⟩ = some (.slice Ai (ps.getD k []).length ci) ∧ ci ≤ 9223372036854775807 ∧ Src w B Ai ci (ps.getD k []) := by
  rcases h.at_ with h0 | ⟨g, off, rfl, hg, hgb, hc⟩
  · rw [h0] at hk
    simp at hk
  obtain ⟨Ai, ci, hcell, hci, hsrc⟩ := hc k hk
  exact ⟨g, off, Ai, ci, rfl, Nat.lt_of_lt_of_le hg hB.size, by rw [hB.cell (p := ⟨g, off + k, none⟩) hg]; exact hcell, hci, hsrc.new hbb⟩

theorem slice_four (g : Nat) (W : World) : (Instr.sliceAt 126 (.pointer (some ⟨g, 0, none⟩)) none none none).run Tryd.prog W = .ok (.slice (some ⟨g, 0, none⟩) 4 4) W := by
  have h := run_sliceAt_array_all (P := Tryd.prog) W 126 ⟨g, 0, none⟩ (by kernel_rfl)
  rw [h, show Tryd.prog.arrayLen 126 = 4 by kernel_rfl, show Tryd.prog.elem 126 = 5 by kernel_rfl]
  obtain ⟨i0, hi, hz0, hz1, hz2⟩ := info_parts byte_info
  simp [sizeOf, typeInfo, hi, slicedAt, Addr.add_mid]

set_option maxRecDepth 100000 in
set_option maxHeartbeats 4000000 in
theorem for_any (d m c b : Nat) (A : Option Addr) (ps : List (List Nat)) (w : World) (HT : Hid (Tab w)) (hd : d < 256) (HP : Hid (Parts w b A ps)) (HM : Hid (ps.length = m)) (hm : m ≤ 1000000) (HN : Hid (ps.flatten.length ≤ 1000000000)) :
    Calls Tryd.prog 33 #[.int .u8 (d : Int), .slice A m c] w fun e w' => e = .returned (.agg (w8 (sha (text d ps))).toArray) ∧ Below w.heap.size w w' := by
  have d1 : (d : Int) ≤ 255 := by omega
  go_enter Tryd.func33, Tryd.ntmps33
  go_upto_region 1 with fail
  have H0 : Hid (Blk (w.alloc (.cells zsum 52)) w.heap.size 52 (w8 noSum)) := Lib.hid (by
    have h := Blk.new w 52 (w8 (List.replicate 32 0))
    rw [zsum_eq] at h
    exact h)
  have H2 : Hid (Below w.heap.size w (w.alloc (.cells zsum 52))) := Lib.hid ((Below.refl _ _).alloc (Nat.le_refl _) _)
  unfold zsum at H0 H2
  generalize w.alloc (.cells _ 52) = V at H0 H2 ⊢
  have hV : w.heap.size < V.heap.size := H0.out.lt
  go_wp2_with fail
  refine (new_any _).mono ?_
  rintro e V1 ⟨rfl, hr1, hB1⟩
  have HR1 := Lib.hid hr1
  have HW1 := Lib.hid (H2.out.trans (hB1.mono (by omega)))
  have H01 := Lib.hid (H0.out.below hB1 hV)
  have hb1 : V.heap.size < V1.heap.size := hr1.blk.lt
  clear hr1 hB1
  obtain ⟨mm, hmm⟩ : ∃ mm, m % 256 = mm := ⟨_, rfl⟩
  have hmI : (m : Int) % 256 = (mm : Int) := by omega
  have hmm2 : mm < 256 := by omega
  have HMM := Lib.hid hmm
  clear hmm
  go_wp2_with fail
  have HBN : Hid (Below V1.heap.size V1 ((V1.alloc (.cells #[.int .u8 (d : Int), .int .u8 (mm : Int)] 5)).alloc (.cells #[.slice (some ⟨V1.heap.size, 0, none⟩) 2 2] 35))) := Lib.hid (((Below.refl _ _).alloc (Nat.le_refl _) _).alloc (by simp) _)
  have HPA : Hid (Blk ((V1.alloc (.cells #[.int .u8 (d : Int), .int .u8 (mm : Int)] 5)).alloc (.cells #[.slice (some ⟨V1.heap.size, 0, none⟩) 2 2] 35)) V1.heap.size 5 (w8 [d, mm])) := Lib.hid ((Blk.new V1 5 (w8 [d, mm])).alloc _)
  have HPB : Hid (Blk ((V1.alloc (.cells #[.int .u8 (d : Int), .int .u8 (mm : Int)] 5)).alloc (.cells #[.slice (some ⟨V1.heap.size, 0, none⟩) 2 2] 35)) (V1.heap.size + 1) 35 [.slice (some ⟨V1.heap.size, 0, none⟩) 2 2]) := Lib.hid (by
    have h := Blk.new (V1.alloc (.cells #[.int .u8 (d : Int), .int .u8 (mm : Int)] 5)) 35 [.slice (some ⟨V1.heap.size, 0, none⟩) 2 2]
    rw [World.size_alloc] at h
    exact h)
  generalize (V1.alloc (.cells #[.int .u8 (d : Int), .int .u8 (mm : Int)] 5)).alloc (.cells #[.slice (some ⟨V1.heap.size, 0, none⟩) 2 2] 35) = V2 at HBN HPA HPB ⊢
  have HW2 := Lib.hid (HW1.out.trans (HBN.out.mono (by omega)))
  have HT2 := Lib.hid (HT.out.below HW2.out HT.out.lt)
  have HP2 := Lib.hid (Parts.one (b := V.heap.size) (x := [d, mm]) HPB.out rfl (by omega) (by omega) (Src.blk (rest := []) (by rw [List.append_nil]; exact HPA.out) (by omega) (by intro x hx; simp at hx; omega) 2 (by simp)))
  have hV0 : V.heap.size ≠ 0 := by omega
  refine (write_any V.heap.size 1 1 _ [] _ [[d, mm]] V2 (Lib.hid (HR1.out.below HBN.out)) HT2 hV0 HP2 (Lib.hid rfl) (by omega) (Lib.hid (by simp))).mono ?_
  rintro e V3 ⟨rfl, ⟨bs3, hr3⟩, hg3⟩
  rw [show ([] : List Nat) ++ ([[d, mm]] : List (List Nat)).flatten = [d, mm] by simp] at hr3
  have HR3 := Lib.hid hr3
  have HW3 := Lib.hid (HW2.out.trans (only_up hg3 (Nat.le_of_lt hV) HW2.out.size))
  have H03 := Lib.hid ((H01.out.below HBN.out (by omega)).grown hg3 (by intro he; injection he with he; omega))
  clear hr3 hg3 HPA HPB HP2 HBN HR1 hmI
  go_wp2_with fail
  go_loopw [20, 7, 8] (fun i _ _ wr => ∃ (k : Nat) (bs' : List Nat), k ≤ m ∧ i = .int .i64 k ∧ Hid (Rep wr V.heap.size ([d, mm] ++ laidParts (ps.take k)) bs') ∧ Hid (Blk wr w.heap.size 52 (w8 noSum)) ∧ Hid (Below w.heap.size w wr)) (fun i _ _ _ => m - (intOf i).toNat)
  case atStart => exact ⟨0, bs3, Nat.zero_le _, rfl, HR3, H03, HW3⟩
  case round =>
    obtain ⟨k, bs', hk, rfl, HR, H04, HW⟩ := hrel
    by_cases hlt : k < m
    · have hkp : k < ps.length := by rw [HM.out]; exact hlt
      obtain ⟨g, off, Ai, ci, hA, hg, hcell, hci, hsrc⟩ := HP.out.at2 HW.out k hkp (B := V.heap.size) (by omega)
      obtain ⟨x, hx⟩ : ∃ x, ps.getD k [] = x := ⟨_, rfl⟩
      obtain ⟨n, hn⟩ : ∃ n, x.length = n := ⟨_, rfl⟩
      have hnb : n ≤ 1000000000 := by have h1 := flatten_part ps k x hkp hx; have h2 := HN.out; omega
      have HTK := Lib.hid (laidParts_take ps k x hkp hx)
      have HLE : Hid (([d, mm] ++ laidParts (ps.take k)).length + (four n).length + x.length ≤ 1000000000000) := Lib.hid (by
        have h1 := flatten_take_le ps k
        have h2 := HN.out
        have e4 : (four n).length = 4 := rfl
        have e2 : [d, mm].length = 2 := rfl
        have e3 := Nat.min_le_left k ps.length
        rw [List.length_append, laidParts_length, List.length_take, e4, e2, hn]
        omega)
      rw [hx, hn] at hcell
      rw [hx] at hsrc
      have HX := Lib.hid hn
      have HSR := Lib.hid (hsrc.below HW.out)
      have hwr : V.heap.size < wr.heap.size := HR.out.blk.lt
      have n1 : (n : Int) ≤ 1000000000 := by omega
      have n2 : n < 4294967296 := by omega
      subst hA
      clear hx hn hsrc hkp
      go_wp2_with fail
      refine (bytesOf_any n _ n2).mono ?_
      rintro e w4 ⟨rfl, hB4⟩
      have HB4 := Lib.hid hB4
      have HLA4 := Lib.hid (heap_alloc_last w4 (.cells zfour 126))
      have HS4 : Hid ((Tryd.prog.info? 126).map (·.size) = some (w8 (four n)).toArray.size) := Lib.hid info52
      have HO4 := Lib.hid (all_oneCell_toArray (w8_one (four n)))
      have h4w : wr.heap.size ≤ w4.heap.size := HB4.out.size
      clear hB4 hcell
      go_upto_region 7 with (first | (refine wpList_store_row rfl 126 (.tmp 8) (.tmp 27) rfl w4.heap.size (w8 (four n)).toArray rfl rfl 126 _ HLA4.out HS4.out rfl HO4.out ?_; rw [World.setRow_alloc_new]))
      have HF5 := Lib.hid (Blk.new w4 126 (w8 (four n)))
      have HB5 : Hid (Below wr.heap.size wr (w4.alloc (.cells (w8 (four n)).toArray 126))) := Lib.hid (HB4.out.alloc HB4.out.size _)
      generalize w4.alloc (.cells (w8 (four n)).toArray 126) = V5 at HF5 HB5 ⊢
      have hs4 := slice_four w4.heap.size
      have h5w : w4.heap.size < V5.heap.size := HF5.out.lt
      go_wp2_with fail
      have HB6 : Hid (Below V5.heap.size V5 (V5.alloc (.cells #[.slice (some ⟨w4.heap.size, 0, none⟩) 4 4, .slice Ai n ci] 35))) := Lib.hid ((Below.refl _ _).alloc (Nat.le_refl _) _)
      have HPB := Lib.hid (Blk.new V5 35 [.slice (some ⟨w4.heap.size, 0, none⟩) 4 4, .slice Ai n ci])
      generalize V5.alloc (.cells #[.slice (some ⟨w4.heap.size, 0, none⟩) 4 4, .slice Ai n ci] 35) = V6 at HB6 HPB ⊢
      have HB56 := Lib.hid (HB5.out.trans (HB6.out.mono (by omega)))
      have HW6 := Lib.hid (HW.out.trans (HB56.out.mono (by omega)))
      have HP6 := Lib.hid (Parts.two' (b := V.heap.size) (x1 := four n) (x2 := x) HPB.out rfl HX.out.symm (by omega) (by omega) hci (Src.blk (rest := []) (by rw [List.append_nil]; exact HF5.out.below HB6.out h5w) (by omega) (four_lt n n2) 4 (by simp [four])) (HSR.out.below HB56.out))
      refine (write_any V.heap.size 2 2 _ _ bs' [four n, x] V6 (Lib.hid (HR.out.below HB56.out)) (Lib.hid (HT.out.below HW6.out HT.out.lt)) hV0 HP6 (Lib.hid rfl) (by omega) (Lib.hid (by have h1 := HLE.out; have h2 : (four n ++ x).length = (four n).length + x.length := List.length_append; rw [show ([four n, x] : List (List Nat)).flatten = four n ++ x by simp]; omega))).mono ?_
      rintro e V7 ⟨rfl, ⟨bs7, hr7⟩, hg7⟩
      rw [show ([four n, x] : List (List Nat)).flatten = four n ++ x by simp, List.append_assoc, ← HX.out, ← HTK.out] at hr7
      have HR7 := Lib.hid hr7
      have HW7 := Lib.hid (HW6.out.trans (only_up hg7 (Nat.le_of_lt hV) HW6.out.size))
      have H07 := Lib.hid ((H04.out.below HB56.out (by omega)).grown hg7 (by intro he; injection he with he; omega))
      clear hr7 hg7 hs4
      go_wp2
      go_roundw
      case rel => exact ⟨k + 1, bs7, by omega, by go_num, HR7, H07, HW7⟩
      case measure => simp [intOf]; omega
    · have htk : ps.take k = ps := List.take_of_length_le (by rw [HM.out]; omega)
      rw [htk, show [d, mm] ++ laidParts ps = text d ps by unfold text; rw [HM.out, HMM.out]] at HR
      have HN9 : Hid ((text d ps).length ≤ 100000000000) := Lib.hid (by rw [text_length, HM.out]; have := HN.out; omega)
      clear htk
      go_wp2_with fail
      refine (sum_any V.heap.size _ bs' wr HR (Lib.hid (HT.out.below HW.out HT.out.lt)) hV0 HN9).mono ?_
      rintro e V3 ⟨rfl, hB3⟩
      have h2w : w.heap.size < wr.heap.size := H04.out.lt
      have H05 := Lib.hid (H04.out.below hB3 h2w)
      have HW5 := Lib.hid (HW.out.trans (hB3.mono (by omega)))
      have HS6 : Hid ((Tryd.prog.info? 52).map (·.size) = some (w8 (sha (text d ps))).toArray.size) := Lib.hid (by rw [List.size_toArray, w8_length, sha_length]; exact info25)
      have HZ6 : Hid ((w8 noSum).toArray.size = (w8 (sha (text d ps))).toArray.size) := Lib.hid (by rw [List.size_toArray, List.size_toArray, w8_length, w8_length, sha_length]; simp [noSum])
      have HO6 := Lib.hid (all_oneCell_toArray (w8_one (sha (text d ps))))
      clear hB3
      go_wp2_with (first | (refine wpList_store_row rfl 52 (.tmp 4) (.tmp 35) rfl w.heap.size (w8 (sha (text d ps))).toArray rfl rfl 52 _ H05.out HS6.out HZ6.out HO6.out ?_))
      exact bodyPost_ret (v := .agg (w8 (sha (text d ps))).toArray) (results_cell_row Tryd.results33 _ _ w.heap.size 52 (w8 (sha (text d ps))).toArray (0, 0) _ rfl (H05.out.setRow _) Tryd.underlying52 rfl HS6.out) rfl ⟨rfl, below_setRow HW5.out (Nat.le_refl _) _⟩
end Go.Proofs.YtbdjlnejlkiijaaDoorRRR
