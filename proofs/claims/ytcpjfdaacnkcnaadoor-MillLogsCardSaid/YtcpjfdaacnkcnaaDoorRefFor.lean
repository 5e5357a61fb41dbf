/-
  The document's For (function 17) and Lock (function 19), the program's Lock (function 18): the sum of the document's text; nothing that was there is written.
-/
import Derived.Test.YtcpjfdaacnkcnaaDoorRefOf
import Derived.Test.YtcpjfdaacnkcnaaDoorText
namespace Go.Proofs.YtcpjfdaacnkcnaaDoor
open Go.RowKit
set_option linter.unusedVariables false

theorem Blk.setCells {g : Nat} {t : TypeId} : ∀ (vs : List Value) (w : World) (pre old : List Value), old.length = vs.length → Blk w g t (pre ++ old) → Blk (w.setCells g pre.length vs) g t (pre ++ vs)
  | [], w, pre, old, hl, h => by
    have : old = [] := List.eq_nil_of_length_eq_zero (by simpa using hl)
    subst this
    exact h
  | v :: r, w, pre, [], hl, h => by simp at hl
  | v :: r, w, pre, x :: old, hl, h => by
    have h1 := h.set_ pre.length v
    rw [List.set_append_right _ _ (Nat.le_refl _), Nat.sub_self, List.set_cons_zero] at h1
    have h2 := Blk.setCells r (w.setCell ⟨g, pre.length, none⟩ v) (pre ++ [v]) old (by simpa using hl) (by simpa using h1)
    simp only [List.length_append, List.length_cons, List.length_nil, List.append_assoc, List.cons_append, List.nil_append] at h2
    exact h2
theorem below_setCells {B g : Nat} {w0 : World} : ∀ (vs : List Value) (o : Nat) (w : World), Below B w0 w → B ≤ g → Below B w0 (w.setCells g o vs)
  | [], _, _, h, _ => h
  | v :: r, o, w, h, hg => below_setCells r (o + 1) _ (h.setCell (p := ⟨g, o, none⟩) hg v) hg

theorem text_lt (d : Nat) (ps : List (List Nat)) (hd : d < 256) (h : ∀ p ∈ ps, p.length < 4294967296 ∧ ∀ x ∈ p, x < 256) : ∀ x ∈ text d ps, x < 256 := by
  intro x hx
  simp only [text, laidParts, List.mem_append, List.mem_cons, List.mem_flatMap, List.not_mem_nil, or_false] at hx
  rcases hx with (rfl | rfl) | ⟨p, hp, hx | hx⟩
  · exact hd
  · exact Nat.mod_lt _ (by omega)
  · exact four_lt _ (h p hp).1 x hx
  · exact (h p hp).2 x hx

theorem info24 : (Tryd.prog.info? 24).map (·.size) = some 32 := by kernel_rfl
theorem Own.srcOf {w : World} {base b : Nat} {v : Value} {l : List Nat} (h : Own w base v l) (hb : w.heap.size ≤ b) (hl : ∀ x ∈ l, x < 256) : ∃ A c, v = .slice A l.length c ∧ Src w b A c l := by
  obtain ⟨A, c, h1, _, h2⟩ := h.src (b := b) (by intro he; have := (h.base_ he).2; omega) hl
  exact ⟨A, c, h1, h2⟩

set_option maxRecDepth 100000 in
set_option maxHeartbeats 2000000 in
theorem reffor_any (f r : ByteArray) (d m c b : Nat) (A : Option Addr) (ps : List (List Nat)) (w : World) (HX : Hid (Texts f r)) (hd : d < 256) (HP : Hid (Parts w b A ps)) (HM : Hid (ps.length = m)) (hm : m ≤ 1000000) (HN : Hid (ps.flatten.length ≤ 900000000)) (HE : Hid (∀ p ∈ ps, ∀ x ∈ p, x < 256)) :
    Calls Tryd.prog 17 #[.agg #[.string f, .string r], .int .u8 (d : Int), .slice A m c] w fun e w' => e = .returned (.agg (w8 (sha (text d ps))).toArray) ∧ Below w.heap.size w w' := by
  go_enter Tryd.func17, Tryd.ntmps17
  go_wp2_with fail
  have H0 : Hid (Blk ((w.alloc (.cells #[.string f, .string r] 28)).alloc (.cells zsum 24)) (w.heap.size + 1) 24 (w8 noSum)) := Lib.hid (by
    have h := Blk.new (w.alloc (.cells #[.string f, .string r] 28)) 24 (w8 (List.replicate 32 0))
    rw [zsum_eq, World.size_alloc] at h
    exact h)
  have HBX : Hid (Blk ((w.alloc (.cells #[.string f, .string r] 28)).alloc (.cells zsum 24)) w.heap.size 28 [.string f, .string r]) := Lib.hid ((Blk.new w 28 [.string f, .string r]).alloc _)
  have HB : Hid (Below w.heap.size w ((w.alloc (.cells #[.string f, .string r] 28)).alloc (.cells zsum 24))) := Lib.hid (((Below.refl _ _).alloc (Nat.le_refl _) _).alloc (by simp) _)
  unfold zsum at H0 HBX HB
  generalize (w.alloc (.cells #[.string f, .string r] 28)).alloc (.cells _ 24) = V at H0 HBX HB ⊢
  have hV : w.heap.size + 1 < V.heap.size := H0.out.lt
  have HEach : Hid (∀ p ∈ ps, p.length < 4294967296 ∧ ∀ x ∈ p, x < 256) := Lib.hid fun p hp => ⟨by
    obtain ⟨i, hi, he⟩ := List.mem_iff_getElem.1 hp
    have h1 := flatten_part ps i p hi (by simp [List.getD, hi, he])
    have := HN.out
    omega, HE.out p hp⟩
  have HTX : Hid (∀ W, Below V.heap.size V W → Calls Tryd.prog 20 #[.int .u8 (d : Int), .slice A m c] W fun e w' => ∃ A' c', e = .returned (.slice A' (text d ps).length c') ∧ Src w' w'.heap.size A' c' (text d ps) ∧ Below V.heap.size V w') := Lib.hid fun W hW => by
    have hWW : Below w.heap.size w W := HB.out.trans (hW.mono (by omega))
    refine (text_any d m c b A ps W hd (Lib.hid (HP.out.below hWW)) HM hm (Lib.hid (by have := HN.out; omega))).mono ?_
    rintro e w' ⟨v, rfl, hO, hB⟩
    obtain ⟨A', c', rfl, hs⟩ := hO.srcOf (Nat.le_refl _) (text_lt d ps hd HEach.out)
    exact ⟨A', c', rfl, hs, hW.trans (hB.mono hW.size)⟩
  have HLT : Hid ((text d ps).length ≤ 1000000000) := Lib.hid (by rw [text_length]; have := HN.out; have := HM.out; omega)
  have HOF : Hid (∀ (W : World) (A' : Option Addr) (c' : Nat), Src W W.heap.size A' c' (text d ps) → Below V.heap.size V W → Calls Tryd.prog 12 #[.agg #[.string f, .string r], .slice A' (text d ps).length c'] W fun e w' => e = .returned (.agg (w8 (sha (text d ps))).toArray) ∧ Below V.heap.size V w') := Lib.hid fun W A' c' hs hW =>
    (refof_any f r A' (text d ps).length c' (text d ps) W HX (Lib.hid hs) (Lib.hid rfl) HLT.out).mono fun e w' ⟨he, hB⟩ => ⟨he, hW.trans (hB.mono hW.size)⟩
  have HK : Hid (∀ W, Below V.heap.size V W → W.cell? ⟨w.heap.size, 0, none⟩ = some (.string f) ∧ W.cell? ⟨w.heap.size, 1, none⟩ = some (.string r)) := Lib.hid fun W hW => ⟨(HBX.out.below hW (by omega)).cell 0, (HBX.out.below hW (by omega)).cell 1⟩
  have HRS : Hid (∀ W, Below V.heap.size V W → Blk W (w.heap.size + 1) 24 (w8 noSum)) := Lib.hid fun W hW => H0.out.below hW (by omega)
  have HS6 : Hid ((Tryd.prog.info? 24).map (·.size) = some (w8 (sha (text d ps))).toArray.size) := Lib.hid (by rw [List.size_toArray, w8_length, sha_length]; exact info24)
  have hs7 : (Tryd.prog.info? 24).map (·.size) = some (w8 (sha (text d ps))).length := by rw [w8_length, sha_length]; exact info24
  have hone := w8_one (sha (text d ps))
  have HLN : Hid ((w8 noSum).length = (w8 (sha (text d ps))).length) := Lib.hid (by rw [w8_length, w8_length, sha_length]; simp [noSum])
  have HTH : Hid (∀ W, Below V.heap.size V W → W.there (w.heap.size + 1) 0 (w8 (sha (text d ps))).length) := Lib.hid fun W hW => (HRS.out W hW).there 0 _ (by rw [HLN.out]; omega)
  have HBK : Hid (∀ W, Below V.heap.size V W → Blk (W.setCells (w.heap.size + 1) 0 (w8 (sha (text d ps)))) (w.heap.size + 1) 24 (w8 (sha (text d ps)))) := Lib.hid fun W hW => Blk.setCells (w8 (sha (text d ps))) W [] (w8 noSum) HLN.out (HRS.out W hW)
  have HKS : Hid (∀ W, Below V.heap.size V W → (W.setCells (w.heap.size + 1) 0 (w8 (sha (text d ps)))).cell? ⟨w.heap.size, 0, none⟩ = some (.string f) ∧ (W.setCells (w.heap.size + 1) 0 (w8 (sha (text d ps)))).cell? ⟨w.heap.size, 1, none⟩ = some (.string r)) := Lib.hid fun W hW => ⟨(World.cell?_setCells_out _ _ _ _ _ (by intro h; simp at h)).trans (HK.out W hW).1, (World.cell?_setCells_out _ _ _ _ _ (by intro h; simp at h)).trans (HK.out W hW).2⟩
  obtain ⟨c0, c1⟩ := HK.out V (Below.refl _ _)
  go_region_held3 (fun w' => w'.cell? ⟨w.heap.size, 0, none⟩ = some (.string f) ∧ w'.cell? ⟨w.heap.size, 1, none⟩ = some (.string r)) (first | exact ⟨c0, c1⟩ | exact HK.out _ (Below.refl _ _).drew | exact HK.out _ hB2 | exact HK.out _ hB1 | exact HKS.out _ hB2)
    (first
      | (go_at_call 20
         ((with_reducible refine (HTX.out _ ?_).mono ?_))
         · exact (Below.refl _ _).drew
         rintro e w1 ⟨A1, cc1, rfl, hs1, hB1⟩)
      | (go_at_call 12
         ((with_reducible refine (HOF.out _ _ _ ?_ ?_).mono ?_))
         · exact hs1
         · exact hB1
         rintro e w2 ⟨rfl, hB2⟩
         have hth := HTH.out w2 hB2))
  all_goals
    go_wp2
    exact bodyPost_ret (v := .agg (w8 (sha (text d ps))).toArray) (results_cell_row Tryd.results17 _ _ (w.heap.size + 1) 24 (w8 (sha (text d ps))).toArray (0, 0) _ rfl (HBK.out w2 hB2) Tryd.underlying24 rfl HS6.out) rfl ⟨rfl, below_setCells _ _ _ (HB.out.trans (hB2.mono (by omega))) (by omega)⟩

theorem slice24 (g : Nat) (W : World) : (Instr.sliceAt 24 (.pointer (some ⟨g, 0, none⟩)) none none none).run Tryd.prog W = .ok (.slice (some ⟨g, 0, none⟩) 32 32) W := by
  have h := run_sliceAt_array_all (P := Tryd.prog) W 24 ⟨g, 0, none⟩ (by kernel_rfl)
  rw [h, show Tryd.prog.arrayLen 24 = 32 by kernel_rfl, show Tryd.prog.elem 24 = 5 by kernel_rfl]
  obtain ⟨i0, hi, hz0, hz1, hz2⟩ := info_parts byte_info
  simp [sizeOf, typeInfo, hi, slicedAt, Addr.add_mid]
theorem slice68 (g : Nat) (W : World) : (Instr.sliceAt 68 (.pointer (some ⟨g, 0, none⟩)) none none none).run Tryd.prog W = .ok (.slice (some ⟨g, 0, none⟩) 32 32) W := by
  have h := run_sliceAt_array_all (P := Tryd.prog) W 68 ⟨g, 0, none⟩ (by kernel_rfl)
  rw [h, show Tryd.prog.arrayLen 68 = 32 by kernel_rfl, show Tryd.prog.elem 68 = 5 by kernel_rfl]
  obtain ⟨i0, hi, hz0, hz1, hz2⟩ := info_parts byte_info
  simp [sizeOf, typeInfo, hi, slicedAt, Addr.add_mid]
theorem info40 : (Tryd.prog.info? 40).map (·.size) = some 32 := by kernel_rfl

set_option maxRecDepth 100000 in
set_option maxHeartbeats 2000000 in
theorem lock_any (s : List Nat) (w : World) (HT : Hid (Tab w)) (HL : Hid (s.length = 32)) (HS : Hid (∀ x ∈ s, x < 256)) :
    Calls Tryd.prog 18 #[.agg (w8 s).toArray] w fun e w' => e = .returned (.agg (w8 (sha (text 6 [s]))).toArray) ∧ Below w.heap.size w w' := by
  have hsl := slice68 w.heap.size
  go_enter Tryd.func18, Tryd.ntmps18
  go_upto_region 1 with fail
  have HSB : Hid (Blk ((w.alloc (.cells (w8 s).toArray 68)).alloc (.cells zsum 40)) w.heap.size 68 (w8 s)) := Lib.hid ((Blk.new w 68 (w8 s)).alloc _)
  have H0 : Hid (Blk ((w.alloc (.cells (w8 s).toArray 68)).alloc (.cells zsum 40)) (w.heap.size + 1) 40 (w8 noSum)) := Lib.hid (by
    have h := Blk.new (w.alloc (.cells (w8 s).toArray 68)) 40 (w8 (List.replicate 32 0))
    rw [zsum_eq, World.size_alloc] at h
    exact h)
  have HB : Hid (Below w.heap.size w ((w.alloc (.cells (w8 s).toArray 68)).alloc (.cells zsum 40))) := Lib.hid (((Below.refl _ _).alloc (Nat.le_refl _) _).alloc (by simp) _)
  unfold zsum at HSB H0 HB
  generalize (w.alloc (.cells (w8 s).toArray 68)).alloc (.cells _ 40) = V at HSB H0 HB ⊢
  have hV : w.heap.size + 1 < V.heap.size := H0.out.lt
  go_wp2_with fail
  have HPB : Hid (Blk (V.alloc (.cells #[.slice (some ⟨w.heap.size, 0, none⟩) 32 32] 22)) V.heap.size 22 [.slice (some ⟨w.heap.size, 0, none⟩) 32 32]) := Lib.hid (Blk.new V 22 _)
  have HB1 : Hid (Below V.heap.size V (V.alloc (.cells #[.slice (some ⟨w.heap.size, 0, none⟩) 32 32] 22))) := Lib.hid ((Below.refl _ _).alloc (Nat.le_refl _) _)
  generalize V.alloc (.cells #[.slice (some ⟨w.heap.size, 0, none⟩) 32 32] 22) = V1 at HPB HB1 ⊢
  have HW1 := Lib.hid (HB.out.trans (HB1.out.mono (by omega)))
  have HP1 := Lib.hid (Parts.one (b := V.heap.size + V1.heap.size) (x := s) HPB.out HL.out.symm (by have := HPB.out.lt; omega) (by omega) (Src.blk (rest := []) (by rw [List.append_nil]; exact HSB.out.below HB1.out (by omega)) (by have := HPB.out.lt; omega) HS.out 32 (by rw [HL.out]; omega)))
  refine (for_any 6 1 1 _ _ [s] V1 (Lib.hid (HT.out.below HW1.out HT.out.lt)) (by omega) HP1 (Lib.hid rfl) (by omega) (Lib.hid (by simp [HL.out]))).mono ?_
  rintro e V2 ⟨rfl, hB2⟩
  have H02 := Lib.hid ((H0.out.below HB1.out (by omega)).below hB2 (by have := HB1.out.size; omega))
  have HW2 := Lib.hid (HW1.out.trans (hB2.mono HW1.out.size))
  have HS6 : Hid ((Tryd.prog.info? 40).map (·.size) = some (w8 (sha (text 6 [s]))).toArray.size) := Lib.hid (by rw [List.size_toArray, w8_length, sha_length]; exact info40)
  have HZ6 : Hid ((w8 noSum).toArray.size = (w8 (sha (text 6 [s]))).toArray.size) := Lib.hid (by rw [List.size_toArray, List.size_toArray, w8_length, w8_length, sha_length]; simp [noSum])
  have HO6 := Lib.hid (all_oneCell_toArray (w8_one (sha (text 6 [s]))))
  clear hB2 hsl
  go_wp2_with (first | (refine wpList_store_row rfl 40 (.tmp 2) (.tmp 5) rfl (w.heap.size + 1) (w8 (sha (text 6 [s]))).toArray rfl rfl 40 _ H02.out HS6.out HZ6.out HO6.out ?_))
  exact bodyPost_ret (v := .agg (w8 (sha (text 6 [s]))).toArray) (results_cell_row Tryd.results18 _ _ (w.heap.size + 1) 40 (w8 (sha (text 6 [s]))).toArray (0, 0) _ rfl (H02.out.setRow _) Tryd.underlying40 rfl HS6.out) rfl ⟨rfl, below_setRow HW2.out (by omega) _⟩

set_option maxRecDepth 100000 in
set_option maxHeartbeats 2000000 in
theorem reflock_any (f r : ByteArray) (s : List Nat) (w : World) (HX : Hid (Texts f r)) (HL : Hid (s.length = 32)) (HS : Hid (∀ x ∈ s, x < 256)) :
    Calls Tryd.prog 19 #[.agg #[.string f, .string r], .agg (w8 s).toArray] w fun e w' => e = .returned (.agg (w8 (sha (text 6 [s]))).toArray) ∧ Below w.heap.size w w' := by
  have hsl := slice24 (w.heap.size + 1)
  go_enter Tryd.func19, Tryd.ntmps19
  go_wp2_with fail
  have HBX : Hid (Blk (((w.alloc (.cells #[.string f, .string r] 28)).alloc (.cells (w8 s).toArray 24)).alloc (.cells zsum 24)) w.heap.size 28 [.string f, .string r]) := Lib.hid (((Blk.new w 28 [.string f, .string r]).alloc _).alloc _)
  have HSB : Hid (Blk (((w.alloc (.cells #[.string f, .string r] 28)).alloc (.cells (w8 s).toArray 24)).alloc (.cells zsum 24)) (w.heap.size + 1) 24 (w8 s)) := Lib.hid (by
    have h := (Blk.new (w.alloc (.cells #[.string f, .string r] 28)) 24 (w8 s)).alloc (.cells zsum 24)
    rw [World.size_alloc] at h
    exact h)
  have H0 : Hid (Blk (((w.alloc (.cells #[.string f, .string r] 28)).alloc (.cells (w8 s).toArray 24)).alloc (.cells zsum 24)) (w.heap.size + 1 + 1) 24 (w8 noSum)) := Lib.hid (by
    have h := Blk.new ((w.alloc (.cells #[.string f, .string r] 28)).alloc (.cells (w8 s).toArray 24)) 24 (w8 (List.replicate 32 0))
    rw [zsum_eq, World.size_alloc, World.size_alloc] at h
    exact h)
  have HB : Hid (Below w.heap.size w (((w.alloc (.cells #[.string f, .string r] 28)).alloc (.cells (w8 s).toArray 24)).alloc (.cells zsum 24))) := Lib.hid ((((Below.refl _ _).alloc (Nat.le_refl _) _).alloc (by simp) _).alloc (by simp; omega) _)
  unfold zsum at HBX HSB H0 HB
  generalize ((w.alloc (.cells #[.string f, .string r] 28)).alloc (.cells (w8 s).toArray 24)).alloc (.cells _ 24) = V at HBX HSB H0 HB ⊢
  have hV : w.heap.size + 1 + 1 < V.heap.size := H0.out.lt
  have HRF : Hid (∀ (W : World) (g : Nat), Below V.heap.size V W → Blk W g 22 [.slice (some ⟨w.heap.size + 1, 0, none⟩) 32 32] → Calls Tryd.prog 17 #[.agg #[.string f, .string r], .int .u8 6, .slice (some ⟨g, 0, none⟩) 1 1] W fun e w' => e = .returned (.agg (w8 (sha (text 6 [s]))).toArray) ∧ Below V.heap.size V w') := Lib.hid fun W g hW hg => by
    have hp := Parts.one (b := W.heap.size) (x := s) hg HL.out.symm (by have := hg.lt; omega) (by omega) (Src.blk (rest := []) (by rw [List.append_nil]; exact HSB.out.below hW (by omega)) (by have := hW.size; omega) HS.out 32 (by rw [HL.out]; omega))
    exact (reffor_any f r 6 1 1 _ _ [s] W HX (by omega) (Lib.hid hp) (Lib.hid rfl) (by omega) (Lib.hid (by simp [HL.out])) (Lib.hid (by simpa using HS.out))).mono fun e w' ⟨he, hB⟩ => ⟨he, hW.trans (hB.mono hW.size)⟩
  have HK : Hid (∀ W, Below V.heap.size V W → W.cell? ⟨w.heap.size, 0, none⟩ = some (.string f) ∧ W.cell? ⟨w.heap.size, 1, none⟩ = some (.string r)) := Lib.hid fun W hW => ⟨(HBX.out.below hW (by omega)).cell 0, (HBX.out.below hW (by omega)).cell 1⟩
  have HRS : Hid (∀ W, Below V.heap.size V W → Blk W (w.heap.size + 1 + 1) 24 (w8 noSum)) := Lib.hid fun W hW => H0.out.below hW (by omega)
  have HS6 : Hid ((Tryd.prog.info? 24).map (·.size) = some (w8 (sha (text 6 [s]))).toArray.size) := Lib.hid (by rw [List.size_toArray, w8_length, sha_length]; exact info24)
  have hs7 : (Tryd.prog.info? 24).map (·.size) = some (w8 (sha (text 6 [s]))).length := by rw [w8_length, sha_length]; exact info24
  have hone := w8_one (sha (text 6 [s]))
  have HLN : Hid ((w8 noSum).length = (w8 (sha (text 6 [s]))).length) := Lib.hid (by rw [w8_length, w8_length, sha_length]; simp [noSum])
  have HTH : Hid (∀ W, Below V.heap.size V W → W.there (w.heap.size + 1 + 1) 0 (w8 (sha (text 6 [s]))).length) := Lib.hid fun W hW => (HRS.out W hW).there 0 _ (by rw [HLN.out]; omega)
  have HBK : Hid (∀ W, Below V.heap.size V W → Blk (W.setCells (w.heap.size + 1 + 1) 0 (w8 (sha (text 6 [s])))) (w.heap.size + 1 + 1) 24 (w8 (sha (text 6 [s])))) := Lib.hid fun W hW => Blk.setCells (w8 (sha (text 6 [s]))) W [] (w8 noSum) HLN.out (HRS.out W hW)
  have HKS : Hid (∀ W, Below V.heap.size V W → (W.setCells (w.heap.size + 1 + 1) 0 (w8 (sha (text 6 [s])))).cell? ⟨w.heap.size, 0, none⟩ = some (.string f) ∧ (W.setCells (w.heap.size + 1 + 1) 0 (w8 (sha (text 6 [s])))).cell? ⟨w.heap.size, 1, none⟩ = some (.string r)) := Lib.hid fun W hW => ⟨(World.cell?_setCells_out _ _ _ _ _ (by intro h; simp at h; omega)).trans (HK.out W hW).1, (World.cell?_setCells_out _ _ _ _ _ (by intro h; simp at h; omega)).trans (HK.out W hW).2⟩
  obtain ⟨c0, c1⟩ := HK.out V (Below.refl _ _)
  go_region_held3 (fun w' => w'.cell? ⟨w.heap.size, 0, none⟩ = some (.string f) ∧ w'.cell? ⟨w.heap.size, 1, none⟩ = some (.string r)) (first | exact ⟨c0, c1⟩ | exact HK.out _ (Below.refl _ _).drew | exact HK.out _ hB2 | exact HK.out _ ((Below.refl _ _).drew.alloc (Nat.le_refl _) _) | exact HK.out _ ((Below.refl _ _).alloc (Nat.le_refl _) _).drew | exact HKS.out _ hB2)
    (first
      | (go_at_call 17
         ((with_reducible refine (HRF.out _ _ ?_ ?_).mono ?_))
         · first | exact ((Below.refl _ _).drew.alloc (Nat.le_refl _) _) | exact ((Below.refl _ _).alloc (Nat.le_refl _) _).drew
         · first | exact Blk.new _ 22 [_] | exact (Blk.new _ 22 [_]).drewN 1
         rintro e w2 ⟨rfl, hB2⟩
         have hth := HTH.out w2 hB2))
  all_goals
    go_wp2
    exact bodyPost_ret (v := .agg (w8 (sha (text 6 [s]))).toArray) (results_cell_row Tryd.results19 _ _ (w.heap.size + 1 + 1) 24 (w8 (sha (text 6 [s]))).toArray (0, 0) _ rfl (HBK.out w2 hB2) Tryd.underlying24 rfl HS6.out) rfl ⟨rfl, below_setCells _ _ _ (HB.out.trans (hB2.mono (by omega))) (by omega)⟩
end Go.Proofs.YtcpjfdaacnkcnaaDoor
