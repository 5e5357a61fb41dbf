/-
  The document's tables (15), Text (35) and Sum (14) of a state.
-/
import Derived.Test.YtbdjlnejlkiijaaDoorRRRDeN
import Derived.Test.YtbdjlnejlkiijaaDoorRRRDeE
import Derived.Test.YtbdjlnejlkiijaaDoorRRRRefOf
import Derived.Test.YtbdjlnejlkiijaaDoorRRRText
namespace Go.Proofs.YtbdjlnejlkiijaaDoorRRR
open Go.RowKit
set_option linter.unusedVariables false
set_option linter.unusedSimpArgs false

/-- The standard's first words, as letters. -/
def firstText : ByteArray := ⟨#[54, 97, 48, 57, 101, 54, 54, 55, 98, 98, 54, 55, 97, 101, 56, 53, 51, 99, 54, 101, 102, 51, 55, 50, 97, 53, 52, 102, 102, 53, 51, 97, 53, 49, 48, 101, 53, 50, 55, 102, 57, 98, 48, 53, 54, 56, 56, 99, 49, 102, 56, 51, 100, 57, 97, 98, 53, 98, 101, 48, 99, 100, 49, 57]⟩
/-- What each round adds, as letters. -/
def roundText : ByteArray := ⟨#[52, 50, 56, 97, 50, 102, 57, 56, 55, 49, 51, 55, 52, 52, 57, 49, 98, 53, 99, 48, 102, 98, 99, 102, 101, 57, 98, 53, 100, 98, 97, 53, 51, 57, 53, 54, 99, 50, 53, 98, 53, 57, 102, 49, 49, 49, 102, 49, 57, 50, 51, 102, 56, 50, 97, 52, 97, 98, 49, 99, 53, 101, 100, 53, 100, 56, 48, 55, 97, 97, 57, 56, 49, 50, 56, 51, 53, 98, 48, 49, 50, 52, 51, 49, 56, 53, 98, 101, 53, 53, 48, 99, 55, 100, 99, 51, 55, 50, 98, 101, 53, 100, 55, 52, 56, 48, 100, 101, 98, 49, 102, 101, 57, 98, 100, 99, 48, 54, 97, 55, 99, 49, 57, 98, 102, 49, 55, 52, 101, 52, 57, 98, 54, 57, 99, 49, 101, 102, 98, 101, 52, 55, 56, 54, 48, 102, 99, 49, 57, 100, 99, 54, 50, 52, 48, 99, 97, 49, 99, 99, 50, 100, 101, 57, 50, 99, 54, 102, 52, 97, 55, 52, 56, 52, 97, 97, 53, 99, 98, 48, 97, 57, 100, 99, 55, 54, 102, 57, 56, 56, 100, 97, 57, 56, 51, 101, 53, 49, 53, 50, 97, 56, 51, 49, 99, 54, 54, 100, 98, 48, 48, 51, 50, 55, 99, 56, 98, 102, 53, 57, 55, 102, 99, 55, 99, 54, 101, 48, 48, 98, 102, 51, 100, 53, 97, 55, 57, 49, 52, 55, 48, 54, 99, 97, 54, 51, 53, 49, 49, 52, 50, 57, 50, 57, 54, 55, 50, 55, 98, 55, 48, 97, 56, 53, 50, 101, 49, 98, 50, 49, 51, 56, 52, 100, 50, 99, 54, 100, 102, 99, 53, 51, 51, 56, 48, 100, 49, 51, 54, 53, 48, 97, 55, 51, 53, 52, 55, 54, 54, 97, 48, 97, 98, 98, 56, 49, 99, 50, 99, 57, 50, 101, 57, 50, 55, 50, 50, 99, 56, 53, 97, 50, 98, 102, 101, 56, 97, 49, 97, 56, 49, 97, 54, 54, 52, 98, 99, 50, 52, 98, 56, 98, 55, 48, 99, 55, 54, 99, 53, 49, 97, 51, 100, 49, 57, 50, 101, 56, 49, 57, 100, 54, 57, 57, 48, 54, 50, 52, 102, 52, 48, 101, 51, 53, 56, 53, 49, 48, 54, 97, 97, 48, 55, 48, 49, 57, 97, 52, 99, 49, 49, 54, 49, 101, 51, 55, 54, 99, 48, 56, 50, 55, 52, 56, 55, 55, 52, 99, 51, 52, 98, 48, 98, 99, 98, 53, 51, 57, 49, 99, 48, 99, 98, 51, 52, 101, 100, 56, 97, 97, 52, 97, 53, 98, 57, 99, 99, 97, 52, 102, 54, 56, 50, 101, 54, 102, 102, 51, 55, 52, 56, 102, 56, 50, 101, 101, 55, 56, 97, 53, 54, 51, 54, 102, 56, 52, 99, 56, 55, 56, 49, 52, 56, 99, 99, 55, 48, 50, 48, 56, 57, 48, 98, 101, 102, 102, 102, 97, 97, 52, 53, 48, 54, 99, 101, 98, 98, 101, 102, 57, 97, 51, 102, 55, 99, 54, 55, 49, 55, 56, 102, 50]⟩
set_option maxRecDepth 100000 in
theorem texts : Texts firstText roundText := ⟨by decide +kernel, by decide +kernel, by decide +kernel, by decide +kernel, by decide +kernel, by decide +kernel⟩

set_option maxRecDepth 100000 in
theorem make_any (w : World) : Calls Tryd.prog 15 #[] w fun e w' => e = .returned (.agg #[.string firstText, .string roundText]) ∧ Below w.heap.size w w' := by
  go_enter Tryd.func15, Tryd.ntmps15
  go_wp2
  exact bodyPost_ret (v := .agg #[.string firstText, .string roundText]) (by simp [results, Tryd.results15, go_sem, firstText, roundText]) rfl ⟨rfl, by first | exact ((Below.refl _ _).alloc (Nat.le_refl _) _) | exact (((Below.refl _ _).alloc (Nat.le_refl _) _).setCell (Nat.le_refl _) _).setCell (Nat.le_refl _) _⟩


theorem ptext_lt (d : Nat) (ps : List (List Nat)) (hd : d < 256) (h : ∀ p ∈ ps, p.length < 4294967296 ∧ ∀ x ∈ p, x < 256) : ∀ x ∈ text d ps, x < 256 := by
  intro x hx
  simp only [text, laidParts, List.mem_append, List.mem_cons, List.mem_flatMap, List.not_mem_nil, or_false] at hx
  rcases hx with (rfl | rfl) | ⟨p, hp, hx | hx⟩
  · exact hd
  · exact Nat.mod_lt _ (by omega)
  · exact four_lt _ (h p hp).1 x hx
  · exact (h p hp).2 x hx
theorem numV_byte : ∀ (s : Nat) (m : Int), ∀ y ∈ Oct.numV s m, 0 ≤ y ∧ y < 256
  | 0, _, y, h => by cases h
  | s + 1, m, y, h => by
    rcases List.mem_append.1 h with h | h
    · exact numV_byte s _ y h
    · simp only [List.mem_singleton] at h
      omega
theorem condD_byte (c : Cnd) (hb : CndB c) : ∀ y ∈ condD c, 0 ≤ y ∧ y < 256 := by
  intro y hy
  unfold condD at hy
  simp only [List.mem_append, List.mem_singleton] at hy
  rcases hy with ((h | h) | (h | h)) | h
  · exact numV_byte _ _ y h
  · omega
  · exact numV_byte _ _ y h
  · exact hb y h
  · exact numV_byte _ _ y h
theorem stD_byte (ch rd m0 m1 t0 t1 : Int) (cs : List Cnd) (hb : ∀ c ∈ cs, CndB c) : ∀ y ∈ (stD ch rd m0 m1 t0 t1 cs), 0 ≤ y ∧ y < 256 := by
  intro y hy
  unfold stD at hy
  simp only [List.mem_append, List.mem_singleton, List.mem_flatMap] at hy
  rcases hy with ((((h | h) | (h | h)) | (h | h)) | h) | ⟨c, hc, h⟩
  · exact numV_byte _ _ y h
  · exact numV_byte _ _ y h
  · exact numV_byte _ _ y h
  · exact numV_byte _ _ y h
  · exact numV_byte _ _ y h
  · exact numV_byte _ _ y h
  · omega
  · exact condD_byte c (hb c hc) y h
theorem stD_len (ch rd m0 m1 t0 t1 : Int) (cs : List Cnd) (h : ∀ c ∈ cs, c.Ok) : (stD ch rd m0 m1 t0 t1 cs).length = 45 + cs.length * 57 := by
  unfold stD
  simp only [List.length_append, List.length_singleton, Oct.numV_length, fm_len cs h]
/-- The text that is summed, the document's. -/
def rtext (ch rd m0 m1 t0 t1 : Int) (cs : List Cnd) : List Nat := text 4 [natL (Oct.numV 4 ch), natL (stD ch rd m0 m1 t0 t1 cs)]
def dsumD (ch rd m0 m1 t0 t1 : Int) (cs : List Cnd) : List Nat := sha (rtext ch rd m0 m1 t0 t1 cs)
theorem dsumD_length (ch rd m0 m1 t0 t1 : Int) (cs : List Cnd) : (dsumD ch rd m0 m1 t0 t1 cs).length = 32 := sha_length _
theorem rtext_len (ch rd m0 m1 t0 t1 : Int) (cs : List Cnd) (h : ∀ c ∈ cs, c.Ok) : (rtext ch rd m0 m1 t0 t1 cs).length = 59 + cs.length * 57 := by
  unfold rtext
  rw [text_length]
  simp only [List.flatten_cons, List.flatten_nil, List.length_append, natL_length, Oct.numV_length, stD_len _ _ _ _ _ _ cs h, List.length_cons, List.length_nil]
  omega
theorem rtext_lt (ch rd m0 m1 t0 t1 : Int) (cs : List Cnd) (h : ∀ c ∈ cs, c.Ok) (hl : cs.length ≤ 1000) (hb : ∀ c ∈ cs, CndB c) : ∀ x ∈ rtext ch rd m0 m1 t0 t1 cs, x < 256 := by
  refine ptext_lt 4 _ (by omega) fun p hp => ?_
  simp only [List.mem_cons, List.not_mem_nil, or_false] at hp
  rcases hp with rfl | rfl
  · exact ⟨by rw [natL_length, Oct.numV_length]; omega, natL_lt _ (numV_byte _ _)⟩
  · exact ⟨by rw [natL_length, stD_len _ _ _ _ _ _ cs h]; omega, natL_lt _ (stD_byte _ _ _ _ _ _ cs hb)⟩
theorem infoD56 : (Tryd.prog.info? 56).map (·.size) = some 2 := by kernel_rfl
theorem infoD28 : (Tryd.prog.info? 28).map (·.size) = some 32 := by kernel_rfl
set_option maxRecDepth 100000 in
set_option maxHeartbeats 8000000 in
theorem rtext_any (ch rd m0 m1 t0 t1 : Int) (As : Option Addr) (n cp : Nat) (cs : List Cnd) (w : World) (HC : Hid (CRow w As cs)) (HLC : Hid (cs.length = n)) (hn : n ≤ 1000) (HCW : Hid (∀ c ∈ cs, CndW c)) (HCB : Hid (∀ c ∈ cs, CndB c))
    (HWD : Hid ((0 ≤ ch ∧ ch ≤ 4294967295) ∧ (0 ≤ rd ∧ rd ≤ 18446744073709551615) ∧ (0 ≤ m0 ∧ m0 ≤ 18446744073709551615) ∧ (0 ≤ m1 ∧ m1 ≤ 18446744073709551615) ∧ (0 ≤ t0 ∧ t0 ≤ 18446744073709551615) ∧ (0 ≤ t1 ∧ t1 ≤ 18446744073709551615))) :
    Calls Tryd.prog 35 #[.agg #[.int .u32 ch, .int .u64 rd, .int .u64 m0, .int .u64 m1, .int .u64 t0, .int .u64 t1, .slice As n cp]] w fun e w' => ∃ v', e = .returned v' ∧ Own w' w.heap.size v' (rtext ch rd m0 m1 t0 t1 cs) ∧ Below w.heap.size w w' := by
  have HBF : Hid (∀ x ∈ (Oct.numV 4 ch), 0 ≤ x ∧ x < 256) := Lib.hid (numV_byte _ _)
  have HBT : Hid (∀ x ∈ (stD ch rd m0 m1 t0 t1 cs), 0 ≤ x ∧ x < 256) := Lib.hid (stD_byte _ _ _ _ _ _ _ HCB.out)
  obtain ⟨ln, hln⟩ : ∃ x, (stD ch rd m0 m1 t0 t1 cs).length = x := ⟨_, rfl⟩
  have HSL : Hid (ln ≤ 60000) := Lib.hid (by rw [← hln, stD_len _ _ _ _ _ _ _ HC.out.ok, HLC.out]; omega)
  have HLN := Lib.hid hln
  clear hln
  go_enter Tryd.func35, Tryd.ntmps35
  go_upto_region 1 with fail
  have HP0 : Hid (Blk (w.alloc (.cells #[.int .u32 ch, .int .u64 rd, .int .u64 m0, .int .u64 m1, .int .u64 t0, .int .u64 t1, .slice As n cp] 27)) w.heap.size 27 [.int .u32 ch, .int .u64 rd, .int .u64 m0, .int .u64 m1, .int .u64 t0, .int .u64 t1, .slice As n cp]) := Lib.hid (Blk.new w 27 [.int .u32 ch, .int .u64 rd, .int .u64 m0, .int .u64 m1, .int .u64 t0, .int .u64 t1, .slice As n cp])
  have HBV : Hid (Below w.heap.size w (w.alloc (.cells #[.int .u32 ch, .int .u64 rd, .int .u64 m0, .int .u64 m1, .int .u64 t0, .int .u64 t1, .slice As n cp] 27))) := Lib.hid ((Below.refl _ _).alloc (Nat.le_refl _) _)
  generalize w.alloc (.cells #[.int .u32 ch, .int .u64 rd, .int .u64 m0, .int .u64 m1, .int .u64 t0, .int .u64 t1, .slice As n cp] 27) = V at HP0 HBV ⊢
  obtain ⟨gp, hgp⟩ : ∃ x, w.heap.size = x := ⟨_, rfl⟩
  rw [hgp] at HP0 ⊢
  clear hgp
  have P := HP0
  have E := Lib.hid (Below.refl V.heap.size V)
  have hBz : Below V.heap.size V V.drew := below_drewN (Below.refl _ _) 1
  have EX0 : Hid (Below V.heap.size V V.drew) := Lib.hid (E.out.trans (hBz.mono E.out.size))
  have PX0 : Hid (Blk V.drew gp 27 [.int .u32 ch, .int .u64 rd, .int .u64 m0, .int .u64 m1, .int .u64 t0, .int .u64 t1, .slice As n cp]) := Lib.hid (P.out.below hBz P.out.lt)
  clear hBz
  refine wp_region_held_drew (S := fun w' => Blk w' gp 27 [.int .u32 ch, .int .u64 rd, .int .u64 m0, .int .u64 m1, .int .u64 t0, .int .u64 t1, .slice As n cp]) (by kernel_rfl) (PX0.out) (fun hHeld => ?_)
  generalize V.drew = X0 at hHeld EX0 PX0 ⊢
  refine wpAnyH_take (i := 0) (v := .pointer (some ⟨gp, 0, none⟩)) rfl (by kernel_rfl) (by kernel_rfl) (by kernel_rfl) (fun _ _ _ h => h) (Or.inl ⟨by rfl, by intro w' h; go_simp⟩) hHeld ?_
  show wpAnyH _ _ _ _ _ _ _ (Act.put _ (some 3) _) _
  simp only [Act.put, List.setIfInBounds_toArray, List.set_cons_zero, List.set_cons_succ]
  refine wpAnyH_take (i := 1) (v := .int .u32 ch) rfl (by kernel_rfl) (by kernel_rfl) (by kernel_rfl) (fun _ _ _ h => h) (Or.inl ⟨by rfl, by intro w' h; have k0 := Blk.cell h 0; simp only [List.getElem?_cons_zero, List.getElem?_cons_succ] at k0; go_simp⟩) hHeld ?_
  show wpAnyH _ _ _ _ _ _ _ (Act.put _ (some 4) _) _
  simp only [Act.put, List.setIfInBounds_toArray, List.set_cons_zero, List.set_cons_succ]
  refine wpAnyH_take (i := 2) (v := .int .u64 ch) rfl (by kernel_rfl) (by kernel_rfl) (by kernel_rfl) (fun _ _ _ h => h) (Or.inl ⟨by rfl, fun w' h => by have e1 := HWD.out.1.1; have e2 := HWD.out.1.2; unfold execOp; go_simp; try (first | rfl | (rw [IntKind.wrap_u64]; congr 2; omega))⟩) hHeld ?_
  show wpAnyH _ _ _ _ _ _ _ (Act.put _ (some 5) _) _
  simp only [Act.put, List.setIfInBounds_toArray, List.set_cons_zero, List.set_cons_succ]
  refine wpAnyH_take (i := 4) (v := .agg #[.int .u32 ch, .int .u64 rd, .int .u64 m0, .int .u64 m1, .int .u64 t0, .int .u64 t1, .slice As n cp]) rfl (by kernel_rfl) (by kernel_rfl) (by kernel_rfl) (fun _ _ _ h => h) (yieldsIf_load_mid rfl 27 (.tmp 1) rfl gp 0 rfl [.int .u32 ch, .int .u64 rd, .int .u64 m0, .int .u64 m1, .int .u64 t0, .int .u64 t1, .slice As n cp] _ (fun w' h => Blk.all h) Tryd.underlying27 rfl info27) hHeld ?_
  show wpAnyH _ _ _ _ _ _ _ (Act.put _ (some 7) _) _
  simp only [Act.put, List.setIfInBounds_toArray, List.set_cons_zero, List.set_cons_succ]
  refine wpAnyH_ready (rs := [3]) (by kernel_rfl) (by simp) ?_
  refine AllReadyH.cons rfl (fun K hK => ?_) AllReadyH.nil
  refine step_call rfl 31 #[.const (.slice none 0 0), .tmp 5, .const (.int .i64 4)] #[35, 23, 3] rfl #[.slice none 0 0, .int .u64 ch, .int .i64 4] (by simp [Act.eval]) (by go_simp) (Oct.num_any none 0 0 [] ch 4 (by omega) X0 ⟨fun _ => rfl, .inl rfl⟩ rfl (by omega) HWD.out.1.1 (by have := HWD.out.1.2; omega)) ?_
  rintro e X1 ⟨v6, rfl, hO, hB⟩
  rw [List.nil_append] at hO
  replace hO := own_base (c := V.heap.size) hO EX0.out.size
  obtain ⟨A6, c6, hv, _⟩ := Oct.Own.src hO
  rw [Oct.numV_length] at hv
  subst hv
  have EX1 : Hid (Below V.heap.size V X1) := Lib.hid (EX0.out.trans (hB.mono EX0.out.size))
  have PX1 : Hid (Blk X1 gp 27 [.int .u32 ch, .int .u64 rd, .int .u64 m0, .int .u64 m1, .int .u64 t0, .int .u64 t1, .slice As n cp]) := Lib.hid (PX0.out.below hB PX0.out.lt)
  have FX1 : Hid (Oct.Own X1 V.heap.size (.slice A6 4 c6) (Oct.numV 4 ch)) := Lib.hid (hO)
  clear EX0 PX0 hB hO
  refine ⟨_, rfl, hK.out _ _ (PX1.out) (fun hHeld => ?_)⟩
  clear hK K
  show wpAnyH _ _ _ _ _ _ _ (Act.put _ (some 6) _) _
  simp only [Act.put, List.setIfInBounds_toArray, List.set_cons_zero, List.set_cons_succ]
  refine wpAnyH_ready (rs := [5]) (by kernel_rfl) (by simp) ?_
  refine AllReadyH.cons rfl (fun K hK => ?_) AllReadyH.nil
  refine step_call rfl 9 #[.const (.slice none 0 0), .tmp 7] #[35, 27] rfl #[.slice none 0 0, .agg #[.int .u32 ch, .int .u64 rd, .int .u64 m0, .int .u64 m1, .int .u64 t0, .int .u64 t1, .slice As n cp]] (by simp [Act.eval]) (by go_simp) (rstate_any none 0 0 [] ch rd m0 m1 t0 t1 As n cp cs X1 (Lib.hid (HC.out.below (HBV.out.trans (EX1.out.mono HBV.out.size)))) HLC hn HCW HWD ⟨fun _ => rfl, .inl rfl⟩ (Lib.hid rfl) (by omega)) ?_
  rintro e X2 ⟨v8, rfl, hO, hB⟩
  rw [List.nil_append] at hO
  replace hO := own_base (c := V.heap.size) hO EX1.out.size
  obtain ⟨A8, c8, hv, _⟩ := Oct.Own.src hO
  rw [HLN.out] at hv
  subst hv
  have EX2 : Hid (Below V.heap.size V X2) := Lib.hid (EX1.out.trans (hB.mono EX1.out.size))
  have PX2 : Hid (Blk X2 gp 27 [.int .u32 ch, .int .u64 rd, .int .u64 m0, .int .u64 m1, .int .u64 t0, .int .u64 t1, .slice As n cp]) := Lib.hid (PX1.out.below hB PX1.out.lt)
  have FX2 : Hid (Oct.Own X2 V.heap.size (.slice A6 4 c6) (Oct.numV 4 ch)) := Lib.hid (Oct.Own.below FX1.out hB)
  have TX2 : Hid (Oct.Own X2 V.heap.size (.slice A8 ln c8) (stD ch rd m0 m1 t0 t1 cs)) := Lib.hid (hO)
  clear EX1 PX1 FX1 hB hO
  refine ⟨_, rfl, hK.out _ _ (PX2.out) (fun hHeld => ?_)⟩
  clear hK K
  show wpAnyH _ _ _ _ _ _ _ (Act.put _ (some 8) _) _
  simp only [Act.put, List.setIfInBounds_toArray, List.set_cons_zero, List.set_cons_succ]
  refine wpAnyH_ready (rs := [6]) (by kernel_rfl) (by simp) ?_
  refine AllReadyH.cons rfl (fun K hK => ?_) AllReadyH.nil
  refine step_lay rfl 122 2 #[(0, .tmp 6), (1, .tmp 8)] rfl #[(0, .slice A6 4 c6), (1, .slice A8 ln c8)] (by simp [Act.eval]) (.slice (some ⟨X2.heap.size, 0, none⟩) 2 2) (X2.alloc (.cells #[.slice A6 4 c6, .slice A8 ln c8] 35)) (by kernel_rfl) ?_
  have hB : Below X2.heap.size X2 (X2.alloc (.cells #[.slice A6 4 c6, .slice A8 ln c8] 35)) := (Below.refl _ _).alloc (Nat.le_refl _) _
  have hQ := Blk.new X2 35 [.slice A6 4 c6, .slice A8 ln c8]
  generalize X2.alloc (.cells #[.slice A6 4 c6, .slice A8 ln c8] 35) = X3 at hB hQ ⊢
  obtain ⟨g9, hg9⟩ : ∃ x, X2.heap.size = x := ⟨_, rfl⟩
  rw [hg9] at hQ ⊢
  have EX3 : Hid (Below V.heap.size V X3) := Lib.hid (EX2.out.trans (hB.mono EX2.out.size))
  have PX3 : Hid (Blk X3 gp 27 [.int .u32 ch, .int .u64 rd, .int .u64 m0, .int .u64 m1, .int .u64 t0, .int .u64 t1, .slice As n cp]) := Lib.hid (PX2.out.below hB PX2.out.lt)
  have FX3 : Hid (Oct.Own X3 V.heap.size (.slice A6 4 c6) (Oct.numV 4 ch)) := Lib.hid (Oct.Own.below FX2.out hB)
  have TX3 : Hid (Oct.Own X3 V.heap.size (.slice A8 ln c8) (stD ch rd m0 m1 t0 t1 cs)) := Lib.hid (Oct.Own.below TX2.out hB)
  have QX3 : Hid (Blk X3 g9 35 [.slice A6 4 c6, .slice A8 ln c8]) := Lib.hid (hQ)
  clear EX2 PX2 FX2 TX2 hB hQ hg9
  refine hK.out _ _ (PX3.out) (fun hHeld => ?_)
  clear hK K
  show wpAnyH _ _ _ _ _ _ _ (Act.put _ (some 9) _) _
  simp only [Act.put, List.setIfInBounds_toArray, List.set_cons_zero, List.set_cons_succ]
  refine wpAnyH_ready (rs := [7]) (by kernel_rfl) (by simp) ?_
  refine AllReadyH.cons rfl (fun K hK => ?_) AllReadyH.nil
  obtain ⟨A6b, c6b, hv7, hc7, hs7⟩ := own_srcN (b := X3.heap.size) FX3.out (Nat.le_refl _) HBF.out
  obtain ⟨A8b, c8b, hv9, hc9, hs9⟩ := own_srcN (b := X3.heap.size) TX3.out (Nat.le_refl _) HBT.out
  injection hv7 with e1 e2 e3
  subst e1 e3
  injection hv9 with e4 e5 e6
  subst e4 e6
  clear e2 e5
  have hpt := Parts.two' (b := X3.heap.size) (x1 := natL (Oct.numV 4 ch)) (x2 := natL (stD ch rd m0 m1 t0 t1 cs)) QX3.out (by rw [natL_length, Oct.numV_length]) (by rw [natL_length, HLN.out]) (by have := QX3.out.lt; omega) hc7 hc9 hs7 hs9
  refine step_call rfl 54 #[.const (.int .u8 4), .tmp 9] #[5, 122] rfl #[.int .u8 4, .slice (some ⟨g9, 0, none⟩) 2 2] (by simp [Act.eval]) (by go_simp) (text_any 4 2 2 X3.heap.size (some ⟨g9, 0, none⟩) [natL (Oct.numV 4 ch), natL (stD ch rd m0 m1 t0 t1 cs)] X3 (by omega) (Lib.hid hpt) (Lib.hid rfl) (by omega) (Lib.hid (by have h1 := HSL.out; have h0 := HLN.out; simp only [List.flatten_cons, List.flatten_nil, List.length_append, natL_length, Oct.numV_length, List.length_nil]; omega))) ?_
  rintro e X4 ⟨v10, rfl, hO, hB⟩
  have EX4 : Hid (Below V.heap.size V X4) := Lib.hid (EX3.out.trans (hB.mono EX3.out.size))
  have PX4 : Hid (Blk X4 gp 27 [.int .u32 ch, .int .u64 rd, .int .u64 m0, .int .u64 m1, .int .u64 t0, .int .u64 t1, .slice As n cp]) := Lib.hid (PX3.out.below hB PX3.out.lt)
  have RX4 : Hid (Own X4 V.heap.size v10 (rtext ch rd m0 m1 t0 t1 cs)) := Lib.hid (own_mono hO EX3.out.size)
  clear EX3 PX3 hB hO hc7 hc9 hs7 hs9 hpt
  refine ⟨_, rfl, hK.out _ _ (PX4.out) (fun hHeld => ?_)⟩
  clear hK K
  show wpAnyH _ _ _ _ _ _ _ (Act.put _ (some 10) _) _
  simp only [Act.put, List.setIfInBounds_toArray, List.set_cons_zero, List.set_cons_succ]
  refine wpAnyH_take (i := 8) (v := v10) rfl (by kernel_rfl) (by kernel_rfl) (by kernel_rfl) (fun _ _ _ h => h) (Or.inl ⟨by rfl, fun w _ => by rfl⟩) hHeld ?_
  show wpAnyH _ _ _ _ _ _ _ (Act.put _ (some 2) _) _
  simp only [Act.put, List.setIfInBounds_toArray, List.set_cons_zero, List.set_cons_succ]
  refine wpAnyH_done (by kernel_rfl) ?_ _
  clear hHeld
  go_wp2_with fail
  go_ret
  exact ⟨v10, rfl, own_mono RX4.out HBV.out.size, HBV.out.trans (EX4.out.mono HBV.out.size)⟩
set_option maxRecDepth 100000 in
set_option maxHeartbeats 8000000 in
theorem rsum_any (ch rd m0 m1 t0 t1 : Int) (As : Option Addr) (n cp : Nat) (cs : List Cnd) (w : World) (HC : Hid (CRow w As cs)) (HLC : Hid (cs.length = n)) (hn : n ≤ 1000) (HCW : Hid (∀ c ∈ cs, CndW c)) (HCB : Hid (∀ c ∈ cs, CndB c))
    (HWD : Hid ((0 ≤ ch ∧ ch ≤ 4294967295) ∧ (0 ≤ rd ∧ rd ≤ 18446744073709551615) ∧ (0 ≤ m0 ∧ m0 ≤ 18446744073709551615) ∧ (0 ≤ m1 ∧ m1 ≤ 18446744073709551615) ∧ (0 ≤ t0 ∧ t0 ≤ 18446744073709551615) ∧ (0 ≤ t1 ∧ t1 ≤ 18446744073709551615))) :
    Calls Tryd.prog 14 #[.agg #[.string firstText, .string roundText], .agg #[.int .u32 ch, .int .u64 rd, .int .u64 m0, .int .u64 m1, .int .u64 t0, .int .u64 t1, .slice As n cp]] w fun e w' => e = .returned (.agg (w8 (dsumD ch rd m0 m1 t0 t1 cs)).toArray) ∧ Below w.heap.size w w' := by
  have HRL := Lib.hid (rtext_lt ch rd m0 m1 t0 t1 cs HC.out.ok (by rw [HLC.out]; exact hn) HCB.out)
  obtain ⟨ln, hln⟩ : ∃ x, (rtext ch rd m0 m1 t0 t1 cs).length = x := ⟨_, rfl⟩
  have HSL : Hid (ln ≤ 60000) := Lib.hid (by rw [← hln, rtext_len _ _ _ _ _ _ _ HC.out.ok, HLC.out]; omega)
  have HLN := Lib.hid hln
  clear hln
  go_enter Tryd.func14, Tryd.ntmps14
  go_upto_region 1 with fail
  have HM : Hid (Blk (((w.alloc (.cells #[.string firstText, .string roundText] 56)).alloc (.cells #[.int .u32 ch, .int .u64 rd, .int .u64 m0, .int .u64 m1, .int .u64 t0, .int .u64 t1, .slice As n cp] 27)).alloc (.cells zsum 28)) w.heap.size 56 ([.string firstText, .string roundText])) := Lib.hid (by
    have h := ((Blk.new w 56 ([.string firstText, .string roundText])).alloc (.cells #[.int .u32 ch, .int .u64 rd, .int .u64 m0, .int .u64 m1, .int .u64 t0, .int .u64 t1, .slice As n cp] 27)).alloc (.cells zsum 28)
    exact h)
  have HP : Hid (Blk (((w.alloc (.cells #[.string firstText, .string roundText] 56)).alloc (.cells #[.int .u32 ch, .int .u64 rd, .int .u64 m0, .int .u64 m1, .int .u64 t0, .int .u64 t1, .slice As n cp] 27)).alloc (.cells zsum 28)) (w.heap.size + 1) 27 ([.int .u32 ch, .int .u64 rd, .int .u64 m0, .int .u64 m1, .int .u64 t0, .int .u64 t1, .slice As n cp])) := Lib.hid (by
    have h := (Blk.new (w.alloc (.cells #[.string firstText, .string roundText] 56)) 27 ([.int .u32 ch, .int .u64 rd, .int .u64 m0, .int .u64 m1, .int .u64 t0, .int .u64 t1, .slice As n cp])).alloc (.cells zsum 28)
    rw [World.size_alloc] at h
    exact h)
  have HR : Hid (Blk (((w.alloc (.cells #[.string firstText, .string roundText] 56)).alloc (.cells #[.int .u32 ch, .int .u64 rd, .int .u64 m0, .int .u64 m1, .int .u64 t0, .int .u64 t1, .slice As n cp] 27)).alloc (.cells zsum 28)) (w.heap.size + 1 + 1) 28 (w8 noSum)) := Lib.hid (by
    have h := Blk.new ((w.alloc (.cells #[.string firstText, .string roundText] 56)).alloc (.cells #[.int .u32 ch, .int .u64 rd, .int .u64 m0, .int .u64 m1, .int .u64 t0, .int .u64 t1, .slice As n cp] 27)) 28 (w8 noSum)
    rw [show (w8 noSum).toArray = zsum from zsum_eq, World.size_alloc, World.size_alloc] at h
    exact h)
  have HBV : Hid (Below w.heap.size w (((w.alloc (.cells #[.string firstText, .string roundText] 56)).alloc (.cells #[.int .u32 ch, .int .u64 rd, .int .u64 m0, .int .u64 m1, .int .u64 t0, .int .u64 t1, .slice As n cp] 27)).alloc (.cells zsum 28))) := Lib.hid ((((Below.refl _ _).alloc (Nat.le_refl _) _).alloc (by simp) _).alloc (by simp; omega) _)
  unfold zsum at HM HP HR HBV
  generalize (((w.alloc (.cells #[.string firstText, .string roundText] 56)).alloc (.cells #[.int .u32 ch, .int .u64 rd, .int .u64 m0, .int .u64 m1, .int .u64 t0, .int .u64 t1, .slice As n cp] 27)).alloc (.cells _ 28)) = V at HM HP HR HBV ⊢
  have HLR := Lib.hid HR.out.lt
  obtain ⟨gr, hgr⟩ : ∃ x, w.heap.size + 1 + 1 = x := ⟨_, rfl⟩
  have HGR : Hid (w.heap.size ≤ gr) := Lib.hid (by omega)
  have hgn : w.heap.size + 1 ≠ gr := by omega
  have hgm : w.heap.size ≠ gr := by omega
  rw [hgr] at HR HLR ⊢
  clear hgr
  obtain ⟨gp, hgp⟩ : ∃ x, w.heap.size + 1 = x := ⟨_, rfl⟩
  rw [hgp] at HP hgn ⊢
  have HGN := Lib.hid hgn
  clear hgp hgn
  obtain ⟨gm, hgp⟩ : ∃ x, w.heap.size = x := ⟨_, rfl⟩
  rw [hgp] at HM hgm ⊢
  have HGM := Lib.hid hgm
  clear hgp hgm
  have P := HP
  have M := HM
  have E := Lib.hid (Below.refl V.heap.size V)
  have hBz : Below V.heap.size V V.drew := below_drewN (Below.refl _ _) 1
  have EX0 : Hid (Below V.heap.size V V.drew) := Lib.hid (E.out.trans (hBz.mono E.out.size))
  have PX0 : Hid (Blk V.drew gp 27 [.int .u32 ch, .int .u64 rd, .int .u64 m0, .int .u64 m1, .int .u64 t0, .int .u64 t1, .slice As n cp]) := Lib.hid (P.out.below hBz P.out.lt)
  have MX0 : Hid (Blk V.drew gm 56 [.string firstText, .string roundText]) := Lib.hid (M.out.below hBz M.out.lt)
  clear hBz
  refine wp_region_held_drew (S := fun w' => Blk w' gm 56 [.string firstText, .string roundText] ∧ Blk w' gp 27 [.int .u32 ch, .int .u64 rd, .int .u64 m0, .int .u64 m1, .int .u64 t0, .int .u64 t1, .slice As n cp]) (by kernel_rfl) (⟨MX0.out, PX0.out⟩) (fun hHeld => ?_)
  generalize V.drew = X0 at hHeld EX0 PX0 MX0 ⊢
  refine wpAnyH_take (i := 0) (v := .agg #[.string firstText, .string roundText]) rfl (by kernel_rfl) (by kernel_rfl) (by kernel_rfl) (fun _ _ _ h => h) (yieldsIf_load_mid rfl 56 (.tmp 2) rfl gm 0 rfl [.string firstText, .string roundText] _ (fun w' h => Blk.all h.1) Tryd.underlying56 rfl infoD56) hHeld ?_
  show wpAnyH _ _ _ _ _ _ _ (Act.put _ (some 5) _) _
  simp only [Act.put, List.setIfInBounds_toArray, List.set_cons_zero, List.set_cons_succ]
  refine wpAnyH_take (i := 1) (v := .agg #[.int .u32 ch, .int .u64 rd, .int .u64 m0, .int .u64 m1, .int .u64 t0, .int .u64 t1, .slice As n cp]) rfl (by kernel_rfl) (by kernel_rfl) (by kernel_rfl) (fun _ _ _ h => h) (yieldsIf_load_mid rfl 27 (.tmp 3) rfl gp 0 rfl [.int .u32 ch, .int .u64 rd, .int .u64 m0, .int .u64 m1, .int .u64 t0, .int .u64 t1, .slice As n cp] _ (fun w' h => Blk.all h.2) Tryd.underlying27 rfl info27) hHeld ?_
  show wpAnyH _ _ _ _ _ _ _ (Act.put _ (some 6) _) _
  simp only [Act.put, List.setIfInBounds_toArray, List.set_cons_zero, List.set_cons_succ]
  refine wpAnyH_ready (rs := [2]) (by kernel_rfl) (by simp) ?_
  refine AllReadyH.cons rfl (fun K hK => ?_) AllReadyH.nil
  refine step_call rfl 35 #[.tmp 6] #[27] rfl #[.agg #[.int .u32 ch, .int .u64 rd, .int .u64 m0, .int .u64 m1, .int .u64 t0, .int .u64 t1, .slice As n cp]] (by simp [Act.eval]) (by go_simp) (rtext_any ch rd m0 m1 t0 t1 As n cp cs X0 (Lib.hid (HC.out.below (HBV.out.trans (EX0.out.mono HBV.out.size)))) HLC hn HCW HCB HWD) ?_
  rintro e X1 ⟨v7, rfl, hO, hB⟩
  replace hO := own_mono hO EX0.out.size
  obtain ⟨A7, c7, hv⟩ := own_slice hO
  rw [HLN.out] at hv hO
  subst hv
  have EX1 : Hid (Below V.heap.size V X1) := Lib.hid (EX0.out.trans (hB.mono EX0.out.size))
  have PX1 : Hid (Blk X1 gp 27 [.int .u32 ch, .int .u64 rd, .int .u64 m0, .int .u64 m1, .int .u64 t0, .int .u64 t1, .slice As n cp]) := Lib.hid (PX0.out.below hB PX0.out.lt)
  have MX1 : Hid (Blk X1 gm 56 [.string firstText, .string roundText]) := Lib.hid (MX0.out.below hB MX0.out.lt)
  have SX1 : Hid (X1.ownsRow V.heap.size 5 1 (.slice A7 ln c7) ln (w8 (rtext ch rd m0 m1 t0 t1 cs))) := Lib.hid (hO)
  clear EX0 PX0 MX0 hB hO
  refine ⟨_, rfl, hK.out _ _ (⟨MX1.out, PX1.out⟩) (fun hHeld => ?_)⟩
  clear hK K
  show wpAnyH _ _ _ _ _ _ _ (Act.put _ (some 7) _) _
  simp only [Act.put, List.setIfInBounds_toArray, List.set_cons_zero, List.set_cons_succ]
  refine wpAnyH_ready (rs := [3]) (by kernel_rfl) (by simp) ?_
  refine AllReadyH.cons rfl (fun K hK => ?_) AllReadyH.nil
  have hOn : Own X1 V.heap.size (.slice A7 ln c7) (rtext ch rd m0 m1 t0 t1 cs) := (by have h := SX1.out; unfold Own; rw [HLN.out]; exact h)
  obtain ⟨A7b, c7b, hv7, _, hs7⟩ := Own.src (b := X1.heap.size) hOn (by intro he; have := (World.ownsRow.lt hOn _ he).2; omega) HRL.out
  injection hv7 with e1 e2 e3
  subst e1 e3
  clear e2
  refine step_call rfl 34 #[.tmp 5, .tmp 7] #[56, 35] rfl #[.agg #[.string firstText, .string roundText], .slice A7 ln c7] (by simp [Act.eval]) (by go_simp) (refof_any firstText roundText A7 ln c7 (rtext ch rd m0 m1 t0 t1 cs) X1 (Lib.hid texts) (Lib.hid hs7) HLN (by have := HSL.out; omega)) ?_
  rintro e X2 ⟨rfl, hB⟩
  have EX2 : Hid (Below V.heap.size V X2) := Lib.hid (EX1.out.trans (hB.mono EX1.out.size))
  have PX2 : Hid (Blk X2 gp 27 [.int .u32 ch, .int .u64 rd, .int .u64 m0, .int .u64 m1, .int .u64 t0, .int .u64 t1, .slice As n cp]) := Lib.hid (PX1.out.below hB PX1.out.lt)
  have MX2 : Hid (Blk X2 gm 56 [.string firstText, .string roundText]) := Lib.hid (MX1.out.below hB MX1.out.lt)
  clear EX1 PX1 MX1 hB hs7 hOn
  refine ⟨_, rfl, hK.out _ _ (⟨MX2.out, PX2.out⟩) (fun hHeld => ?_)⟩
  clear hK K
  show wpAnyH _ _ _ _ _ _ _ (Act.put _ (some 8) _) _
  simp only [Act.put, List.setIfInBounds_toArray, List.set_cons_zero, List.set_cons_succ]
  refine wpAnyH_ready (rs := [4]) (by kernel_rfl) (by simp) ?_
  refine AllReadyH.cons rfl (fun K hK => ?_) AllReadyH.nil
  refine step_store rfl 28 (.tmp 4) (.tmp 8) rfl gr (w8 (dsumD ch rd m0 m1 t0 t1 cs)) rfl rfl 28 (w8 noSum) (HR.out.below EX2.out HLR.out) (by rw [w8_length, dsumD_length]; exact infoD28) (by rw [w8_length, w8_length, dsumD_length]; rfl) (all_oneCell_toArray (w8_one _)) ?_
  intro X3 hR hg
  have hW : Below w.heap.size w X3 := (HBV.out.trans (EX2.out.mono HBV.out.size)).grown hg (by have h1 := HBV.out.size; have h2 := EX2.out.size; omega) (fun k hk => by injection hk with hk; have := HGR.out; omega)
  have PX3 := Lib.hid (PX2.out.grown hg (fun e => by injection e with e; have := HGN.out; omega))
  have MX3 := Lib.hid (MX2.out.grown hg (fun e => by injection e with e; have := HGM.out; omega))
  have HRY := Lib.hid hR
  have HWY := Lib.hid hW
  clear hR hg hW
  refine hK.out _ _ (⟨MX3.out, PX3.out⟩) (fun hHeld => ?_)
  clear hK K
  show wpAnyH _ _ _ _ _ _ _ (Act.put _ none _) _
  simp only [Act.put]
  refine wpAnyH_done (by kernel_rfl) ?_ _
  clear hHeld
  go_wp2
  exact bodyPost_ret (v := .agg (w8 (dsumD ch rd m0 m1 t0 t1 cs)).toArray) (results_cell_row Tryd.results14 _ _ gr 28 (w8 (dsumD ch rd m0 m1 t0 t1 cs)).toArray (0, 0) _ rfl HRY.out Tryd.underlying28 rfl (by rw [List.size_toArray, w8_length, dsumD_length]; exact infoD28)) rfl ⟨rfl, HWY.out⟩
end Go.Proofs.YtbdjlnejlkiijaaDoorRRR
