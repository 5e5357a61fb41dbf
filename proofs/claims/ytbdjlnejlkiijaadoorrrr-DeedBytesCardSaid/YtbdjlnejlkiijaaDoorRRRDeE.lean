/-
  deed.Sum (13): the sum of a state.
-/
import Derived.Test.YtbdjlnejlkiijaaDoorRRRDeD
import Derived.Test.YtbdjlnejlkiijaaDoorRRRForOf
namespace Go.Proofs.YtbdjlnejlkiijaaDoorRRR
open Go.RowKit
set_option linter.unusedVariables false
set_option linter.unusedSimpArgs false

def ints (l : List Nat) : List Int := l.map fun (x : Nat) => (x : Int)
def natL (l : List Int) : List Nat := l.map Int.toNat
theorem natL_length (l : List Int) : (natL l).length = l.length := by simp [natL]
theorem ints_natL (l : List Int) (h : ∀ x ∈ l, 0 ≤ x ∧ x < 256) : ints (natL l) = l := by
  unfold ints natL
  rw [List.map_map]
  refine (List.map_congr_left fun x hx => ?_).trans (List.map_id l)
  show ((x.toNat : Nat) : Int) = x
  have := (h x hx).1
  omega
theorem natL_lt (l : List Int) (h : ∀ x ∈ l, 0 ≤ x ∧ x < 256) : ∀ x ∈ natL l, x < 256 := by
  intro x hx
  obtain ⟨y, hy, rfl⟩ := List.mem_map.1 hx
  have := h y hy
  omega
theorem byt_ints (l : List Nat) : Oct.byt (ints l) = w8 l := by simp [Oct.byt, ints, w8]
theorem own_srcN {w : World} {base b : Nat} {v : Value} {l : List Int} (h : Oct.Own w base v l) (hb : w.heap.size ≤ b) (hl : ∀ x ∈ l, 0 ≤ x ∧ x < 256) : ∃ A c, v = .slice A (natL l).length c ∧ c ≤ 9223372036854775807 ∧ Src w b A c (natL l) := by
  have hN : w.ownsRow base 5 1 v (natL l).length (w8 (natL l)) := by
    unfold Oct.Own at h
    rw [← ints_natL l hl, byt_ints] at h
    rw [natL_length]
    have e : (ints (natL l)).length = l.length := by rw [ints_natL l hl]
    rw [e] at h
    exact h
  rcases hN.2 with ⟨rfl, h0⟩ | ⟨g, c, cur, rfl, hbg, hg, hn, hc, _⟩
  · have : natL l = [] := List.eq_nil_of_length_eq_zero h0
    rw [this]
    exact ⟨none, 0, rfl, by omega, ⟨Nat.le_refl _, .inl rfl, by simp⟩⟩
  · have hlt : g < w.heap.size := by
      rcases Nat.lt_or_ge g w.heap.size with h2 | h2
      · exact h2
      · rw [Array.getElem?_eq_none h2] at hg; cases hg
    exact ⟨_, c, rfl, by unfold maxLen at hc; exact hc, ⟨hn, .inr ⟨g, 0, rfl, hlt, by omega, fun i hi => by rw [Nat.zero_add, World.ownsRow.cellAt hN i (by omega), w8_get _ i hi]⟩, natL_lt l hl⟩⟩
theorem own_base {w : World} {b c : Nat} {v : Value} {l : List Int} (h : Oct.Own w b v l) (hb : c ≤ b) : Oct.Own w c v l := by
  refine ⟨h.1, ?_⟩
  rcases h.2 with h1 | ⟨g, cap, cur, h1, h2, h3⟩
  · exact .inl h1
  · exact .inr ⟨g, cap, cur, h1, Nat.le_trans hb h2, h3⟩
theorem info40 : (Tryd.prog.info? 40).map (·.size) = some 7 := by kernel_rfl
theorem infoD52 : (Tryd.prog.info? 52).map (·.size) = some 32 := by kernel_rfl
/-- A payment's hash are bytes. -/
def CndB (c : Cnd) : Prop := ∀ x ∈ c.h, 0 ≤ x ∧ x < 256
theorem be4_byte (x : Int) (h : 0 ≤ x) (h2 : x ≤ 4294967295) : ∀ y ∈ Oct.be4 x, 0 ≤ y ∧ y < 256 := by
  intro y hy
  simp only [Oct.be4, List.mem_cons, List.not_mem_nil, or_false] at hy
  omega
theorem be8_byte (x : Int) (h : 0 ≤ x ∧ x ≤ 18446744073709551615) : ∀ y ∈ Oct.be8 x, 0 ≤ y ∧ y < 256 := by
  intro y hy
  simp only [Oct.be8, Oct.be4, List.mem_append, List.mem_cons, List.not_mem_nil, or_false] at hy
  omega
theorem condL_byte (c : Cnd) (hw : CndW c) (hb : CndB c) : ∀ y ∈ condL c, 0 ≤ y ∧ y < 256 := by
  intro y hy
  unfold condL at hy
  simp only [List.mem_append, List.mem_singleton] at hy
  rcases hy with h | h | h | h | h
  · exact be8_byte _ hw.1 y h
  · omega
  · exact be8_byte _ hw.2.1 y h
  · exact hb y h
  · exact be8_byte _ hw.2.2 y h
theorem stL_byte (ch rd m0 m1 t0 t1 : Int) (cs : List Cnd) (HWD : (0 ≤ ch ∧ ch ≤ 4294967295) ∧ (0 ≤ rd ∧ rd ≤ 18446744073709551615) ∧ (0 ≤ m0 ∧ m0 ≤ 18446744073709551615) ∧ (0 ≤ m1 ∧ m1 ≤ 18446744073709551615) ∧ (0 ≤ t0 ∧ t0 ≤ 18446744073709551615) ∧ (0 ≤ t1 ∧ t1 ≤ 18446744073709551615)) (hw : ∀ c ∈ cs, CndW c) (hb : ∀ c ∈ cs, CndB c) :
    ∀ y ∈ (stL ch rd m0 m1 t0 t1 cs), 0 ≤ y ∧ y < 256 := by
  obtain ⟨h0, h1, h2, h3, h4, h5⟩ := HWD
  intro y hy
  unfold stL stH at hy
  simp only [List.mem_append, List.mem_singleton, List.mem_flatMap] at hy
  rcases hy with ((((h | h) | (h | h)) | (h | h))) | h | ⟨c, hc, h⟩
  · exact be4_byte _ h0.1 h0.2 y h
  · exact be8_byte _ h1 y h
  · exact be8_byte _ h2 y h
  · exact be8_byte _ h3 y h
  · exact be8_byte _ h4 y h
  · exact be8_byte _ h5 y h
  · omega
  · exact condL_byte c (hw c hc) (hb c hc) y h
theorem stL_len (ch rd m0 m1 t0 t1 : Int) (cs : List Cnd) (h : ∀ c ∈ cs, c.Ok) : (stL ch rd m0 m1 t0 t1 cs).length = 45 + cs.length * 57 := by
  unfold stL stH
  simp only [List.length_append, List.length_singleton, be4_len4, be8_len8, flat_len cs h]
  omega
/-- The sum of a state. -/
def dsum (ch rd m0 m1 t0 t1 : Int) (cs : List Cnd) : List Nat := sha (text 4 [natL (Oct.be4 ch), natL (stL ch rd m0 m1 t0 t1 cs)])
theorem dsum_length (ch rd m0 m1 t0 t1 : Int) (cs : List Cnd) : (dsum ch rd m0 m1 t0 t1 cs).length = 32 := sha_length _
set_option maxRecDepth 100000 in
set_option maxHeartbeats 8000000 in
theorem deedsum_any (ch rd m0 m1 t0 t1 : Int) (A : Option Addr) (n cap : Nat) (cs : List Cnd) (w : World) (HT : Hid (Tab w)) (HC : Hid (CRow w A cs)) (HL : Hid (cs.length = n)) (hn : n ≤ 1000) (HCW : Hid (∀ c ∈ cs, CndW c)) (HCB : Hid (∀ c ∈ cs, CndB c))
    (HWD : Hid ((0 ≤ ch ∧ ch ≤ 4294967295) ∧ (0 ≤ rd ∧ rd ≤ 18446744073709551615) ∧ (0 ≤ m0 ∧ m0 ≤ 18446744073709551615) ∧ (0 ≤ m1 ∧ m1 ≤ 18446744073709551615) ∧ (0 ≤ t0 ∧ t0 ≤ 18446744073709551615) ∧ (0 ≤ t1 ∧ t1 ≤ 18446744073709551615))) :
    Calls Tryd.prog 13 #[.agg #[.int .u32 ch, .int .u64 rd, .int .u64 m0, .int .u64 m1, .int .u64 t0, .int .u64 t1, .slice A n cap]] w fun e w' => e = .returned (.agg (w8 (dsum ch rd m0 m1 t0 t1 cs)).toArray) ∧ Below w.heap.size w w' := by
  have HB4 : Hid (∀ x ∈ Oct.be4 ch, 0 ≤ x ∧ x < 256) := Lib.hid (be4_byte _ HWD.out.1.1 HWD.out.1.2)
  have HBT : Hid (∀ x ∈ (stL ch rd m0 m1 t0 t1 cs), 0 ≤ x ∧ x < 256) := Lib.hid (stL_byte _ _ _ _ _ _ _ HWD.out HCW.out HCB.out)
  obtain ⟨ln, hln⟩ : ∃ x, (stL ch rd m0 m1 t0 t1 cs).length = x := ⟨_, rfl⟩
  have HSL : Hid (ln ≤ 60000) := Lib.hid (by rw [← hln, stL_len _ _ _ _ _ _ _ HC.out.ok, HL.out]; omega)
  have HLN := Lib.hid hln
  clear hln
  go_enter Tryd.func13, Tryd.ntmps13
  go_upto_region 1 with fail
  have HP : Hid (Blk ((w.alloc (.cells #[.int .u32 ch, .int .u64 rd, .int .u64 m0, .int .u64 m1, .int .u64 t0, .int .u64 t1, .slice A n cap] 40)).alloc (.cells zsum 52)) w.heap.size 40 ([.int .u32 ch, .int .u64 rd, .int .u64 m0, .int .u64 m1, .int .u64 t0, .int .u64 t1, .slice A n cap])) := Lib.hid (by
    have h := (Blk.new w 40 ([.int .u32 ch, .int .u64 rd, .int .u64 m0, .int .u64 m1, .int .u64 t0, .int .u64 t1, .slice A n cap])).alloc (.cells zsum 52)
    exact h)
  have HR : Hid (Blk ((w.alloc (.cells #[.int .u32 ch, .int .u64 rd, .int .u64 m0, .int .u64 m1, .int .u64 t0, .int .u64 t1, .slice A n cap] 40)).alloc (.cells zsum 52)) (w.heap.size + 1) 52 (w8 noSum)) := Lib.hid (by
    have h := Blk.new (w.alloc (.cells #[.int .u32 ch, .int .u64 rd, .int .u64 m0, .int .u64 m1, .int .u64 t0, .int .u64 t1, .slice A n cap] 40)) 52 (w8 noSum)
    rw [show (w8 noSum).toArray = zsum from zsum_eq, World.size_alloc] at h
    exact h)
  have HBV : Hid (Below w.heap.size w ((w.alloc (.cells #[.int .u32 ch, .int .u64 rd, .int .u64 m0, .int .u64 m1, .int .u64 t0, .int .u64 t1, .slice A n cap] 40)).alloc (.cells zsum 52))) := Lib.hid (((Below.refl _ _).alloc (Nat.le_refl _) _).alloc (by simp) _)
  unfold zsum at HP HR HBV
  generalize ((w.alloc (.cells #[.int .u32 ch, .int .u64 rd, .int .u64 m0, .int .u64 m1, .int .u64 t0, .int .u64 t1, .slice A n cap] 40)).alloc (.cells _ 52)) = V at HP HR HBV ⊢
  have HLP := Lib.hid HP.out.lt
  have HLR := Lib.hid HR.out.lt
  obtain ⟨gr, hgr⟩ : ∃ x, w.heap.size + 1 = x := ⟨_, rfl⟩
  have HGR : Hid (w.heap.size ≤ gr) := Lib.hid (by omega)
  have hgn : w.heap.size ≠ gr := by omega
  rw [hgr] at HR HLR ⊢
  clear hgr
  obtain ⟨gp, hgp⟩ : ∃ x, w.heap.size = x := ⟨_, rfl⟩
  rw [hgp] at HP HLP hgn ⊢
  have HGN := Lib.hid hgn
  clear hgp hgn
  have P0 := HP
  have E0 := Lib.hid (Below.refl V.heap.size V)
  have hBz : Below V.heap.size V V.drew := below_drewN (Below.refl _ _) 1
  have EX0 : Hid (Below V.heap.size V V.drew) := Lib.hid (E0.out.trans (hBz.mono E0.out.size))
  have PX0 : Hid (Blk V.drew gp 40 [.int .u32 ch, .int .u64 rd, .int .u64 m0, .int .u64 m1, .int .u64 t0, .int .u64 t1, .slice A n cap]) := Lib.hid (P0.out.below hBz P0.out.lt)
  clear hBz
  refine wp_region_held_drew (S := fun w' => Blk w' gp 40 [.int .u32 ch, .int .u64 rd, .int .u64 m0, .int .u64 m1, .int .u64 t0, .int .u64 t1, .slice A n cap]) (by kernel_rfl) (PX0.out) (fun hHeld => ?_)
  generalize V.drew = X0 at hHeld EX0 PX0 ⊢
  refine wpAnyH_take (i := 1) (v := .pointer (some ⟨gp, 0, none⟩)) rfl (by kernel_rfl) (by kernel_rfl) (by kernel_rfl) (fun _ _ _ h => h) (Or.inl ⟨by rfl, by intro w' h; go_simp⟩) hHeld ?_
  show wpAnyH _ _ _ _ _ _ _ (Act.put _ (some 4) _) _
  simp only [Act.put, List.setIfInBounds_toArray, List.set_cons_zero, List.set_cons_succ]
  refine wpAnyH_take (i := 2) (v := .int .u32 ch) rfl (by kernel_rfl) (by kernel_rfl) (by kernel_rfl) (fun _ _ _ h => h) (Or.inl ⟨by rfl, by intro w' h; have k0 := Blk.cell h 0; simp only [List.getElem?_cons_zero] at k0; go_simp⟩) hHeld ?_
  show wpAnyH _ _ _ _ _ _ _ (Act.put _ (some 5) _) _
  simp only [Act.put, List.setIfInBounds_toArray, List.set_cons_zero, List.set_cons_succ]
  refine wpAnyH_take (i := 5) (v := .agg #[.int .u32 ch, .int .u64 rd, .int .u64 m0, .int .u64 m1, .int .u64 t0, .int .u64 t1, .slice A n cap]) rfl (by kernel_rfl) (by kernel_rfl) (by kernel_rfl) (fun _ _ _ h => h) (yieldsIf_load_mid rfl 40 (.tmp 1) rfl gp 0 rfl [.int .u32 ch, .int .u64 rd, .int .u64 m0, .int .u64 m1, .int .u64 t0, .int .u64 t1, .slice A n cap] _ (fun w' h => Blk.all h) Tryd.underlying40 rfl info40) hHeld ?_
  show wpAnyH _ _ _ _ _ _ _ (Act.put _ (some 8) _) _
  simp only [Act.put, List.setIfInBounds_toArray, List.set_cons_zero, List.set_cons_succ]
  refine wpAnyH_ready (rs := [0, 3]) (by kernel_rfl) (by simp) ?_
  refine AllReadyH.cons rfl (fun K hK => ?_) (AllReadyH.cons rfl (fun K hK => ?_) AllReadyH.nil)
  · refine step_lay rfl 36 0 #[] rfl #[] (by simp) (.slice (some ⟨X0.heap.size, 0, none⟩) 0 0) (X0.alloc (.cells #[] 5)) (by kernel_rfl) ?_
    have hB : Below X0.heap.size X0 (X0.alloc (.cells #[] 5)) := (Below.refl _ _).alloc (Nat.le_refl _) _
    have hO := Oct.own_fresh (X := X0) (base := V.heap.size) EX0.out.size
    generalize X0.alloc (.cells #[] 5) = X1 at hB hO ⊢
    obtain ⟨g3, hg3⟩ : ∃ x, X0.heap.size = x := ⟨_, rfl⟩
    rw [hg3] at hO ⊢
    have EX1 : Hid (Below V.heap.size V X1) := Lib.hid (EX0.out.trans (hB.mono EX0.out.size))
    have PX1 : Hid (Blk X1 gp 40 [.int .u32 ch, .int .u64 rd, .int .u64 m0, .int .u64 m1, .int .u64 t0, .int .u64 t1, .slice A n cap]) := Lib.hid (PX0.out.below hB PX0.out.lt)
    have OX1 : Hid (Oct.Own X1 V.heap.size (.slice (some ⟨g3, 0, none⟩) 0 0) []) := Lib.hid (hO)
    clear EX0 PX0 hB hO hg3
    refine hK.out _ _ (PX1.out) (fun hHeld => ?_)
    clear hK K
    show wpAnyH _ _ _ _ _ _ _ (Act.put _ (some 3) _) _
    simp only [Act.put, List.setIfInBounds_toArray, List.set_cons_zero, List.set_cons_succ]
    refine wpAnyH_ready (rs := [3]) (by kernel_rfl) (by simp) ?_
    refine AllReadyH.cons rfl (fun K hK => ?_) AllReadyH.nil
    refine step_lay rfl 118 1 #[(0, .tmp 5)] rfl #[(0, .int .u32 ch)] (by simp [Act.eval]) (.slice (some ⟨X1.heap.size, 0, none⟩) 1 1) (X1.alloc (.cells #[.int .u32 ch] 22)) (by kernel_rfl) ?_
    have hB : Below X1.heap.size X1 (X1.alloc (.cells #[.int .u32 ch] 22)) := (Below.refl _ _).alloc (Nat.le_refl _) _
    have hK := Oct.Rd.lit .u32 22 X1 #[.int .u32 ch] [ch] rfl
    generalize X1.alloc (.cells #[.int .u32 ch] 22) = X2 at hB hK ⊢
    obtain ⟨g6, hg6⟩ : ∃ x, X1.heap.size = x := ⟨_, rfl⟩
    rw [hg6] at hK ⊢
    have EX2 : Hid (Below V.heap.size V X2) := Lib.hid (EX1.out.trans (hB.mono EX1.out.size))
    have PX2 : Hid (Blk X2 gp 40 [.int .u32 ch, .int .u64 rd, .int .u64 m0, .int .u64 m1, .int .u64 t0, .int .u64 t1, .slice A n cap]) := Lib.hid (PX1.out.below hB PX1.out.lt)
    have OX2 : Hid (Oct.Own X2 V.heap.size (.slice (some ⟨g3, 0, none⟩) 0 0) []) := Lib.hid (Oct.Own.below OX1.out hB)
    have KX2 : Hid (Oct.Rd .u32 X2 (some ⟨g6, 0, none⟩) [ch]) := Lib.hid (hK)
    clear EX1 PX1 OX1 hB hK hg6
    refine hK.out _ _ (PX2.out) (fun hHeld => ?_)
    clear hK K
    show wpAnyH _ _ _ _ _ _ _ (Act.put _ (some 6) _) _
    simp only [Act.put, List.setIfInBounds_toArray, List.set_cons_zero, List.set_cons_succ]
    refine wpAnyH_ready (rs := [4]) (by kernel_rfl) (by simp) ?_
    refine AllReadyH.cons rfl (fun K hK => ?_) AllReadyH.nil
    refine step_call rfl 26 #[.tmp 3, .tmp 6] #[36, 118] rfl #[.slice (some ⟨g3, 0, none⟩) 0 0, .slice (some ⟨g6, 0, none⟩) 1 1] (by simp [Act.eval]) (by go_simp) (Oct.four_any (.slice (some ⟨g3, 0, none⟩) 0 0) (some ⟨g6, 0, none⟩) 1 V.heap.size [] [ch] X2 OX2.out KX2.out (by simp; exact HWD.out.1) (by simp) EX2.out.size) ?_
    rintro e X3 ⟨v7, rfl, hO, hG, hL⟩
    have EX3 : Hid (Below V.heap.size V X3) := Lib.hid (EX2.out.trans (Oct.grown_below hG EX2.out.size (fun g hg => (World.ownsRow.lt OX2.out g hg).1)))
    have PX3 := Lib.hid (PX2.out.grown hG (fun e => by have := (World.ownsRow.lt OX2.out gp e.symm).1; have := HLP.out; omega))
    rw [Oct.be4s_one, List.nil_append] at hO
    obtain ⟨A7, c7, hv7, _⟩ := Oct.Own.src hO
    rw [be4_len4] at hv7
    subst hv7
    have FX3 : Hid (Oct.Own X3 V.heap.size (.slice A7 4 c7) (Oct.be4 ch)) := Lib.hid hO
    clear hO hG hL EX2 PX2 OX2 KX2
    refine ⟨_, rfl, hK.out _ _ (PX3.out) (fun hHeld => ?_)⟩
    clear hK K
    show wpAnyH _ _ _ _ _ _ _ (Act.put _ (some 7) _) _
    simp only [Act.put, List.setIfInBounds_toArray, List.set_cons_zero, List.set_cons_succ]
    refine wpAnyH_ready (rs := [6]) (by kernel_rfl) (by simp) ?_
    refine AllReadyH.cons rfl (fun K hK => ?_) AllReadyH.nil
    refine step_call rfl 7 #[.const (.slice none 0 0), .tmp 8] #[36, 40] rfl #[.slice none 0 0, .agg #[.int .u32 ch, .int .u64 rd, .int .u64 m0, .int .u64 m1, .int .u64 t0, .int .u64 t1, .slice A n cap]] (by simp [Act.eval]) (by go_simp) (deedlay_any ch rd m0 m1 t0 t1 A n cap cs (.slice none 0 0) X3.heap.size [] X3 (Lib.hid (HC.out.below (HBV.out.trans (EX3.out.mono HBV.out.size)))) HL hn HCW HWD (Lib.hid (Oct.Own.nil _ _)) (Lib.hid (Nat.le_refl _)) (Lib.hid (by simp))) ?_
    rintro e X4 ⟨v9, rfl, hO, hG, hL⟩
    have hB : Below X3.heap.size X3 X4 := Oct.grown_below hG (Nat.le_refl _) (by simp [Value.ownBlock])
    rw [List.nil_append] at hO
    replace hO := own_base hO EX3.out.size
    obtain ⟨A9, c9, hv9, _⟩ := Oct.Own.src hO
    rw [HLN.out] at hv9
    subst hv9
    have EX4 : Hid (Below V.heap.size V X4) := Lib.hid (EX3.out.trans (hB.mono EX3.out.size))
    have PX4 : Hid (Blk X4 gp 40 [.int .u32 ch, .int .u64 rd, .int .u64 m0, .int .u64 m1, .int .u64 t0, .int .u64 t1, .slice A n cap]) := Lib.hid (PX3.out.below hB PX3.out.lt)
    have FX4 : Hid (Oct.Own X4 V.heap.size (.slice A7 4 c7) (Oct.be4 ch)) := Lib.hid (Oct.Own.below FX3.out hB)
    have TX4 : Hid (Oct.Own X4 V.heap.size (.slice A9 ln c9) (stL ch rd m0 m1 t0 t1 cs)) := Lib.hid (hO)
    clear EX3 PX3 FX3 hB hO hG hL
    refine ⟨_, rfl, hK.out _ _ (PX4.out) (fun hHeld => ?_)⟩
    clear hK K
    show wpAnyH _ _ _ _ _ _ _ (Act.put _ (some 9) _) _
    simp only [Act.put, List.setIfInBounds_toArray, List.set_cons_zero, List.set_cons_succ]
    refine wpAnyH_ready (rs := [7]) (by kernel_rfl) (by simp) ?_
    refine AllReadyH.cons rfl (fun K hK => ?_) AllReadyH.nil
    refine step_lay rfl 122 2 #[(0, .tmp 7), (1, .tmp 9)] rfl #[(0, .slice A7 4 c7), (1, .slice A9 ln c9)] (by simp [Act.eval]) (.slice (some ⟨X4.heap.size, 0, none⟩) 2 2) (X4.alloc (.cells #[.slice A7 4 c7, .slice A9 ln c9] 35)) (by kernel_rfl) ?_
    have hB : Below X4.heap.size X4 (X4.alloc (.cells #[.slice A7 4 c7, .slice A9 ln c9] 35)) := (Below.refl _ _).alloc (Nat.le_refl _) _
    have hQ := Blk.new X4 35 [.slice A7 4 c7, .slice A9 ln c9]
    generalize X4.alloc (.cells #[.slice A7 4 c7, .slice A9 ln c9] 35) = X5 at hB hQ ⊢
    obtain ⟨g10, hg10⟩ : ∃ x, X4.heap.size = x := ⟨_, rfl⟩
    rw [hg10] at hQ ⊢
    have EX5 : Hid (Below V.heap.size V X5) := Lib.hid (EX4.out.trans (hB.mono EX4.out.size))
    have PX5 : Hid (Blk X5 gp 40 [.int .u32 ch, .int .u64 rd, .int .u64 m0, .int .u64 m1, .int .u64 t0, .int .u64 t1, .slice A n cap]) := Lib.hid (PX4.out.below hB PX4.out.lt)
    have FX5 : Hid (Oct.Own X5 V.heap.size (.slice A7 4 c7) (Oct.be4 ch)) := Lib.hid (Oct.Own.below FX4.out hB)
    have TX5 : Hid (Oct.Own X5 V.heap.size (.slice A9 ln c9) (stL ch rd m0 m1 t0 t1 cs)) := Lib.hid (Oct.Own.below TX4.out hB)
    have QX5 : Hid (Blk X5 g10 35 [.slice A7 4 c7, .slice A9 ln c9]) := Lib.hid (hQ)
    clear EX4 PX4 FX4 TX4 hB hQ hg10
    refine hK.out _ _ (PX5.out) (fun hHeld => ?_)
    clear hK K
    show wpAnyH _ _ _ _ _ _ _ (Act.put _ (some 10) _) _
    simp only [Act.put, List.setIfInBounds_toArray, List.set_cons_zero, List.set_cons_succ]
    refine wpAnyH_ready (rs := [8]) (by kernel_rfl) (by simp) ?_
    refine AllReadyH.cons rfl (fun K hK => ?_) AllReadyH.nil
    obtain ⟨A7b, c7b, hv7, hc7, hs7⟩ := own_srcN (b := X5.heap.size) FX5.out (Nat.le_refl _) HB4.out
    obtain ⟨A9b, c9b, hv9, hc9, hs9⟩ := own_srcN (b := X5.heap.size) TX5.out (Nat.le_refl _) HBT.out
    injection hv7 with e1 e2 e3
    subst e1 e3
    injection hv9 with e4 e5 e6
    subst e4 e6
    clear e2 e5
    have hpt := Parts.two' (b := X5.heap.size) (x1 := natL (Oct.be4 ch)) (x2 := natL (stL ch rd m0 m1 t0 t1 cs)) QX5.out (by rw [natL_length, be4_len4]) (by rw [natL_length, HLN.out]) (by have := QX5.out.lt; omega) hc7 hc9 hs7 hs9
    refine step_call rfl 33 #[.const (.int .u8 4), .tmp 10] #[5, 122] rfl #[.int .u8 4, .slice (some ⟨g10, 0, none⟩) 2 2] (by simp [Act.eval]) (by go_simp) (for_any 4 2 2 X5.heap.size (some ⟨g10, 0, none⟩) [natL (Oct.be4 ch), natL (stL ch rd m0 m1 t0 t1 cs)] X5 (Lib.hid (HT.out.below (HBV.out.trans (EX5.out.mono HBV.out.size)) HT.out.lt)) (by omega) (Lib.hid hpt) (Lib.hid rfl) (by omega) (Lib.hid (by have h1 := HSL.out; have h0 := HLN.out; simp only [List.flatten_cons, List.flatten_nil, List.length_append, natL_length, be4_len4, List.length_nil]; omega))) ?_
    rintro e X6 ⟨rfl, hB⟩
    have EX6 : Hid (Below V.heap.size V X6) := Lib.hid (EX5.out.trans (hB.mono EX5.out.size))
    have PX6 : Hid (Blk X6 gp 40 [.int .u32 ch, .int .u64 rd, .int .u64 m0, .int .u64 m1, .int .u64 t0, .int .u64 t1, .slice A n cap]) := Lib.hid (PX5.out.below hB PX5.out.lt)
    clear EX5 PX5 hB hc7 hc9 hs7 hs9 hpt
    refine ⟨_, rfl, hK.out _ _ (PX6.out) (fun hHeld => ?_)⟩
    clear hK K
    show wpAnyH _ _ _ _ _ _ _ (Act.put _ (some 11) _) _
    simp only [Act.put, List.setIfInBounds_toArray, List.set_cons_zero, List.set_cons_succ]
    refine wpAnyH_ready (rs := [9]) (by kernel_rfl) (by simp) ?_
    refine AllReadyH.cons rfl (fun K hK => ?_) AllReadyH.nil
    refine step_store rfl 52 (.tmp 2) (.tmp 11) rfl gr (w8 (dsum ch rd m0 m1 t0 t1 cs)) rfl rfl 52 (w8 noSum) (HR.out.below EX6.out HLR.out) (by rw [w8_length, dsum_length]; exact infoD52) (by rw [w8_length, w8_length, dsum_length]; rfl) (all_oneCell_toArray (w8_one _)) ?_
    intro X7 hR hg
    have hW : Below w.heap.size w X7 := (HBV.out.trans (EX6.out.mono HBV.out.size)).grown hg (by have h1 := HBV.out.size; have h2 := EX6.out.size; omega) (fun k hk => by injection hk with hk; have := HGR.out; omega)
    have PX7 := Lib.hid (PX6.out.grown hg (fun e => by injection e with e; have := HGN.out; omega))
    have HRY := Lib.hid hR
    have HWY := Lib.hid hW
    clear hR hg hW
    refine hK.out _ _ (PX7.out) (fun hHeld => ?_)
    clear hK K
    show wpAnyH _ _ _ _ _ _ _ (Act.put _ none _) _
    simp only [Act.put]
    refine wpAnyH_done (by kernel_rfl) ?_ _
    clear hHeld
    go_wp2
    exact bodyPost_ret (v := .agg (w8 (dsum ch rd m0 m1 t0 t1 cs)).toArray) (results_cell_row Tryd.results13 _ _ gr 52 (w8 (dsum ch rd m0 m1 t0 t1 cs)).toArray (0, 0) _ rfl HRY.out Tryd.underlying52 rfl (by rw [List.size_toArray, w8_length, dsum_length]; exact infoD52)) rfl ⟨rfl, HWY.out⟩
  · refine step_lay rfl 118 1 #[(0, .tmp 5)] rfl #[(0, .int .u32 ch)] (by simp [Act.eval]) (.slice (some ⟨X0.heap.size, 0, none⟩) 1 1) (X0.alloc (.cells #[.int .u32 ch] 22)) (by kernel_rfl) ?_
    have hB : Below X0.heap.size X0 (X0.alloc (.cells #[.int .u32 ch] 22)) := (Below.refl _ _).alloc (Nat.le_refl _) _
    have hK := Oct.Rd.lit .u32 22 X0 #[.int .u32 ch] [ch] rfl
    generalize X0.alloc (.cells #[.int .u32 ch] 22) = X1 at hB hK ⊢
    obtain ⟨g6, hg6⟩ : ∃ x, X0.heap.size = x := ⟨_, rfl⟩
    rw [hg6] at hK ⊢
    have EX1 : Hid (Below V.heap.size V X1) := Lib.hid (EX0.out.trans (hB.mono EX0.out.size))
    have PX1 : Hid (Blk X1 gp 40 [.int .u32 ch, .int .u64 rd, .int .u64 m0, .int .u64 m1, .int .u64 t0, .int .u64 t1, .slice A n cap]) := Lib.hid (PX0.out.below hB PX0.out.lt)
    have KX1 : Hid (Oct.Rd .u32 X1 (some ⟨g6, 0, none⟩) [ch]) := Lib.hid (hK)
    clear EX0 PX0 hB hK hg6
    refine hK.out _ _ (PX1.out) (fun hHeld => ?_)
    clear hK K
    show wpAnyH _ _ _ _ _ _ _ (Act.put _ (some 6) _) _
    simp only [Act.put, List.setIfInBounds_toArray, List.set_cons_zero, List.set_cons_succ]
    refine wpAnyH_ready (rs := [0]) (by kernel_rfl) (by simp) ?_
    refine AllReadyH.cons rfl (fun K hK => ?_) AllReadyH.nil
    refine step_lay rfl 36 0 #[] rfl #[] (by simp) (.slice (some ⟨X1.heap.size, 0, none⟩) 0 0) (X1.alloc (.cells #[] 5)) (by kernel_rfl) ?_
    have hB : Below X1.heap.size X1 (X1.alloc (.cells #[] 5)) := (Below.refl _ _).alloc (Nat.le_refl _) _
    have hO := Oct.own_fresh (X := X1) (base := V.heap.size) EX1.out.size
    generalize X1.alloc (.cells #[] 5) = X2 at hB hO ⊢
    obtain ⟨g3, hg3⟩ : ∃ x, X1.heap.size = x := ⟨_, rfl⟩
    rw [hg3] at hO ⊢
    have EX2 : Hid (Below V.heap.size V X2) := Lib.hid (EX1.out.trans (hB.mono EX1.out.size))
    have PX2 : Hid (Blk X2 gp 40 [.int .u32 ch, .int .u64 rd, .int .u64 m0, .int .u64 m1, .int .u64 t0, .int .u64 t1, .slice A n cap]) := Lib.hid (PX1.out.below hB PX1.out.lt)
    have KX2 : Hid (Oct.Rd .u32 X2 (some ⟨g6, 0, none⟩) [ch]) := Lib.hid (KX1.out.below hB)
    have OX2 : Hid (Oct.Own X2 V.heap.size (.slice (some ⟨g3, 0, none⟩) 0 0) []) := Lib.hid (hO)
    clear EX1 PX1 KX1 hB hO hg3
    refine hK.out _ _ (PX2.out) (fun hHeld => ?_)
    clear hK K
    show wpAnyH _ _ _ _ _ _ _ (Act.put _ (some 3) _) _
    simp only [Act.put, List.setIfInBounds_toArray, List.set_cons_zero, List.set_cons_succ]
    refine wpAnyH_ready (rs := [4]) (by kernel_rfl) (by simp) ?_
    refine AllReadyH.cons rfl (fun K hK => ?_) AllReadyH.nil
    refine step_call rfl 26 #[.tmp 3, .tmp 6] #[36, 118] rfl #[.slice (some ⟨g3, 0, none⟩) 0 0, .slice (some ⟨g6, 0, none⟩) 1 1] (by simp [Act.eval]) (by go_simp) (Oct.four_any (.slice (some ⟨g3, 0, none⟩) 0 0) (some ⟨g6, 0, none⟩) 1 V.heap.size [] [ch] X2 OX2.out KX2.out (by simp; exact HWD.out.1) (by simp) EX2.out.size) ?_
    rintro e X3 ⟨v7, rfl, hO, hG, hL⟩
    have EX3 : Hid (Below V.heap.size V X3) := Lib.hid (EX2.out.trans (Oct.grown_below hG EX2.out.size (fun g hg => (World.ownsRow.lt OX2.out g hg).1)))
    have PX3 := Lib.hid (PX2.out.grown hG (fun e => by have := (World.ownsRow.lt OX2.out gp e.symm).1; have := HLP.out; omega))
    rw [Oct.be4s_one, List.nil_append] at hO
    obtain ⟨A7, c7, hv7, _⟩ := Oct.Own.src hO
    rw [be4_len4] at hv7
    subst hv7
    have FX3 : Hid (Oct.Own X3 V.heap.size (.slice A7 4 c7) (Oct.be4 ch)) := Lib.hid hO
    clear hO hG hL EX2 PX2 OX2 KX2
    refine ⟨_, rfl, hK.out _ _ (PX3.out) (fun hHeld => ?_)⟩
    clear hK K
    show wpAnyH _ _ _ _ _ _ _ (Act.put _ (some 7) _) _
    simp only [Act.put, List.setIfInBounds_toArray, List.set_cons_zero, List.set_cons_succ]
    refine wpAnyH_ready (rs := [6]) (by kernel_rfl) (by simp) ?_
    refine AllReadyH.cons rfl (fun K hK => ?_) AllReadyH.nil
    refine step_call rfl 7 #[.const (.slice none 0 0), .tmp 8] #[36, 40] rfl #[.slice none 0 0, .agg #[.int .u32 ch, .int .u64 rd, .int .u64 m0, .int .u64 m1, .int .u64 t0, .int .u64 t1, .slice A n cap]] (by simp [Act.eval]) (by go_simp) (deedlay_any ch rd m0 m1 t0 t1 A n cap cs (.slice none 0 0) X3.heap.size [] X3 (Lib.hid (HC.out.below (HBV.out.trans (EX3.out.mono HBV.out.size)))) HL hn HCW HWD (Lib.hid (Oct.Own.nil _ _)) (Lib.hid (Nat.le_refl _)) (Lib.hid (by simp))) ?_
    rintro e X4 ⟨v9, rfl, hO, hG, hL⟩
    have hB : Below X3.heap.size X3 X4 := Oct.grown_below hG (Nat.le_refl _) (by simp [Value.ownBlock])
    rw [List.nil_append] at hO
    replace hO := own_base hO EX3.out.size
    obtain ⟨A9, c9, hv9, _⟩ := Oct.Own.src hO
    rw [HLN.out] at hv9
    subst hv9
    have EX4 : Hid (Below V.heap.size V X4) := Lib.hid (EX3.out.trans (hB.mono EX3.out.size))
    have PX4 : Hid (Blk X4 gp 40 [.int .u32 ch, .int .u64 rd, .int .u64 m0, .int .u64 m1, .int .u64 t0, .int .u64 t1, .slice A n cap]) := Lib.hid (PX3.out.below hB PX3.out.lt)
    have FX4 : Hid (Oct.Own X4 V.heap.size (.slice A7 4 c7) (Oct.be4 ch)) := Lib.hid (Oct.Own.below FX3.out hB)
    have TX4 : Hid (Oct.Own X4 V.heap.size (.slice A9 ln c9) (stL ch rd m0 m1 t0 t1 cs)) := Lib.hid (hO)
    clear EX3 PX3 FX3 hB hO hG hL
    refine ⟨_, rfl, hK.out _ _ (PX4.out) (fun hHeld => ?_)⟩
    clear hK K
    show wpAnyH _ _ _ _ _ _ _ (Act.put _ (some 9) _) _
    simp only [Act.put, List.setIfInBounds_toArray, List.set_cons_zero, List.set_cons_succ]
    refine wpAnyH_ready (rs := [7]) (by kernel_rfl) (by simp) ?_
    refine AllReadyH.cons rfl (fun K hK => ?_) AllReadyH.nil
    refine step_lay rfl 122 2 #[(0, .tmp 7), (1, .tmp 9)] rfl #[(0, .slice A7 4 c7), (1, .slice A9 ln c9)] (by simp [Act.eval]) (.slice (some ⟨X4.heap.size, 0, none⟩) 2 2) (X4.alloc (.cells #[.slice A7 4 c7, .slice A9 ln c9] 35)) (by kernel_rfl) ?_
    have hB : Below X4.heap.size X4 (X4.alloc (.cells #[.slice A7 4 c7, .slice A9 ln c9] 35)) := (Below.refl _ _).alloc (Nat.le_refl _) _
    have hQ := Blk.new X4 35 [.slice A7 4 c7, .slice A9 ln c9]
    generalize X4.alloc (.cells #[.slice A7 4 c7, .slice A9 ln c9] 35) = X5 at hB hQ ⊢
    obtain ⟨g10, hg10⟩ : ∃ x, X4.heap.size = x := ⟨_, rfl⟩
    rw [hg10] at hQ ⊢
    have EX5 : Hid (Below V.heap.size V X5) := Lib.hid (EX4.out.trans (hB.mono EX4.out.size))
    have PX5 : Hid (Blk X5 gp 40 [.int .u32 ch, .int .u64 rd, .int .u64 m0, .int .u64 m1, .int .u64 t0, .int .u64 t1, .slice A n cap]) := Lib.hid (PX4.out.below hB PX4.out.lt)
    have FX5 : Hid (Oct.Own X5 V.heap.size (.slice A7 4 c7) (Oct.be4 ch)) := Lib.hid (Oct.Own.below FX4.out hB)
    have TX5 : Hid (Oct.Own X5 V.heap.size (.slice A9 ln c9) (stL ch rd m0 m1 t0 t1 cs)) := Lib.hid (Oct.Own.below TX4.out hB)
    have QX5 : Hid (Blk X5 g10 35 [.slice A7 4 c7, .slice A9 ln c9]) := Lib.hid (hQ)
    clear EX4 PX4 FX4 TX4 hB hQ hg10
    refine hK.out _ _ (PX5.out) (fun hHeld => ?_)
    clear hK K
    show wpAnyH _ _ _ _ _ _ _ (Act.put _ (some 10) _) _
    simp only [Act.put, List.setIfInBounds_toArray, List.set_cons_zero, List.set_cons_succ]
    refine wpAnyH_ready (rs := [8]) (by kernel_rfl) (by simp) ?_
    refine AllReadyH.cons rfl (fun K hK => ?_) AllReadyH.nil
    obtain ⟨A7b, c7b, hv7, hc7, hs7⟩ := own_srcN (b := X5.heap.size) FX5.out (Nat.le_refl _) HB4.out
    obtain ⟨A9b, c9b, hv9, hc9, hs9⟩ := own_srcN (b := X5.heap.size) TX5.out (Nat.le_refl _) HBT.out
    injection hv7 with e1 e2 e3
    subst e1 e3
    injection hv9 with e4 e5 e6
    subst e4 e6
    clear e2 e5
    have hpt := Parts.two' (b := X5.heap.size) (x1 := natL (Oct.be4 ch)) (x2 := natL (stL ch rd m0 m1 t0 t1 cs)) QX5.out (by rw [natL_length, be4_len4]) (by rw [natL_length, HLN.out]) (by have := QX5.out.lt; omega) hc7 hc9 hs7 hs9
    refine step_call rfl 33 #[.const (.int .u8 4), .tmp 10] #[5, 122] rfl #[.int .u8 4, .slice (some ⟨g10, 0, none⟩) 2 2] (by simp [Act.eval]) (by go_simp) (for_any 4 2 2 X5.heap.size (some ⟨g10, 0, none⟩) [natL (Oct.be4 ch), natL (stL ch rd m0 m1 t0 t1 cs)] X5 (Lib.hid (HT.out.below (HBV.out.trans (EX5.out.mono HBV.out.size)) HT.out.lt)) (by omega) (Lib.hid hpt) (Lib.hid rfl) (by omega) (Lib.hid (by have h1 := HSL.out; have h0 := HLN.out; simp only [List.flatten_cons, List.flatten_nil, List.length_append, natL_length, be4_len4, List.length_nil]; omega))) ?_
    rintro e X6 ⟨rfl, hB⟩
    have EX6 : Hid (Below V.heap.size V X6) := Lib.hid (EX5.out.trans (hB.mono EX5.out.size))
    have PX6 : Hid (Blk X6 gp 40 [.int .u32 ch, .int .u64 rd, .int .u64 m0, .int .u64 m1, .int .u64 t0, .int .u64 t1, .slice A n cap]) := Lib.hid (PX5.out.below hB PX5.out.lt)
    clear EX5 PX5 hB hc7 hc9 hs7 hs9 hpt
    refine ⟨_, rfl, hK.out _ _ (PX6.out) (fun hHeld => ?_)⟩
    clear hK K
    show wpAnyH _ _ _ _ _ _ _ (Act.put _ (some 11) _) _
    simp only [Act.put, List.setIfInBounds_toArray, List.set_cons_zero, List.set_cons_succ]
    refine wpAnyH_ready (rs := [9]) (by kernel_rfl) (by simp) ?_
    refine AllReadyH.cons rfl (fun K hK => ?_) AllReadyH.nil
    refine step_store rfl 52 (.tmp 2) (.tmp 11) rfl gr (w8 (dsum ch rd m0 m1 t0 t1 cs)) rfl rfl 52 (w8 noSum) (HR.out.below EX6.out HLR.out) (by rw [w8_length, dsum_length]; exact infoD52) (by rw [w8_length, w8_length, dsum_length]; rfl) (all_oneCell_toArray (w8_one _)) ?_
    intro X7 hR hg
    have hW : Below w.heap.size w X7 := (HBV.out.trans (EX6.out.mono HBV.out.size)).grown hg (by have h1 := HBV.out.size; have h2 := EX6.out.size; omega) (fun k hk => by injection hk with hk; have := HGR.out; omega)
    have PX7 := Lib.hid (PX6.out.grown hg (fun e => by injection e with e; have := HGN.out; omega))
    have HRY := Lib.hid hR
    have HWY := Lib.hid hW
    clear hR hg hW
    refine hK.out _ _ (PX7.out) (fun hHeld => ?_)
    clear hK K
    show wpAnyH _ _ _ _ _ _ _ (Act.put _ none _) _
    simp only [Act.put]
    refine wpAnyH_done (by kernel_rfl) ?_ _
    clear hHeld
    go_wp2
    exact bodyPost_ret (v := .agg (w8 (dsum ch rd m0 m1 t0 t1 cs)).toArray) (results_cell_row Tryd.results13 _ _ gr 52 (w8 (dsum ch rd m0 m1 t0 t1 cs)).toArray (0, 0) _ rfl HRY.out Tryd.underlying52 rfl (by rw [List.size_toArray, w8_length, dsum_length]; exact infoD52)) rfl ⟨rfl, HWY.out⟩
end Go.Proofs.YtbdjlnejlkiijaaDoorRRR
