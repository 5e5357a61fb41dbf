/-
  opOf: the order of a name.
-/
import Derived.Test.YtkilajobnlagbaaDoorCodH
namespace Go.Proofs.YtkilajobnlagbaaDoor
open Go.RowKit
set_option linter.unusedVariables false

/-- The first order from k on that has the name. -/
def opF (s : ByteArray) : Nat → Nat → Int × Bool
  | 0, _ => (0, false)
  | f + 1, k => if nm k = s then ((k : Int), true) else opF s f (k + 1)
def ktabL : List Value := (List.range 72).map fun j => (kcell (j / 4)).getD (j % 4) undef
theorem ktab_get (j : Nat) (h : j < 72) : ktabL[j]? = some ((kcell (j / 4)).getD (j % 4) undef) := by
  simp [ktabL, h]
theorem kcell_get (op i : Nat) (h : i < 4) : (kcell op)[i]? = some ((kcell op).getD i undef) := by
  have : (kcell op).length = 4 := rfl
  simp [List.getD, this, h]
theorem ktab_range {w : World} (h : KTab w) : w.rangeAt 0 0 ktabL := by
  intro j v hv
  have hj : j < 72 := by
    have := (List.getElem?_eq_some_iff.1 hv).1
    simpa [ktabL] using this
  rw [ktab_get j hj] at hv
  have e : j / 4 * 4 + j % 4 = j := by omega
  have := h (j / 4) (by omega) (j % 4) v ((kcell_get _ _ (by omega)).trans hv)
  rw [e] at this
  simpa using this
theorem ktab_cut (op : Nat) (h : op < 18) : ktabL.toArray.extract (op * 4) (op * 4 + 4) = (kcell op).toArray := by
  apply Array.ext'
  apply List.ext_getElem?
  intro i
  by_cases hi : i < 4
  · have e1 : (op * 4 + i) / 4 = op := by omega
    have e2 : (op * 4 + i) % 4 = i := by omega
    rw [kcell_get op i hi]
    simp [List.getElem?_drop, hi, ktab_get (op * 4 + i) (by omega), e1, e2]
  · have : (kcell op).length = 4 := rfl
    rw [List.getElem?_eq_none (l := (kcell op).toArray.toList) (by simp [this]; omega)]
    simp [List.getElem?_take, hi]
theorem info56k : (Tryd.prog.info? 56).map (·.size) = some 4 := by kernel_rfl
theorem info79k : (Tryd.prog.info? 79).map (·.size) = some ktabL.length := by
  rw [show ktabL.length = 72 by simp [ktabL]]
  kernel_rfl
theorem idx_kind (op : Nat) (h : op < 18) (W : World) : (Instr.index 79 (.agg ktabL.toArray) (.int .i64 (op : Int))).run Tryd.prog W = .ok (.agg (kcell op).toArray) W := by
  obtain ⟨i0, hi, hz⟩ := Option.map_eq_some_iff.1 info56k
  have hu : Tryd.prog.underlying 79 = some (.array 18 56) := by kernel_rfl
  have := congrArg Array.toList (ktab_cut op h)
  simp at this
  simp [Instr.index, asIntOf, run_underlying hu, part, isAgg, run_underlying Tryd.underlying56, sizeOf, typeInfo, hi, hz, h, this]

theorem opF_step (s : ByteArray) (k : Nat) (h : k < 18) : opF s (18 - k) k = if nm k = s then ((k : Int), true) else opF s (18 - (k + 1)) (k + 1) := by
  rw [show 18 - k = (18 - (k + 1)) + 1 by omega, opF]

set_option maxRecDepth 100000 in
set_option maxHeartbeats 2000000 in
theorem opOf_any (s : ByteArray) (w : World) (HT : Hid (KTab w)) :
    Calls Tryd.prog 55 #[.string s] w fun e w' => e = .returned (.tuple #[.int .u8 (opF s 18 0).1, .bool (opF s 18 0).2]) ∧ Below w.heap.size w w' := by
  have HR := Lib.hid (ktab_range HT.out)
  have HI := Lib.hid info79k
  have HX := Lib.hid idx_kind
  obtain ⟨KT, hKT⟩ : ∃ x, ktabL = x := ⟨_, rfl⟩
  rw [hKT] at HR HI HX
  obtain ⟨R, hR⟩ : ∃ x, opF s 18 0 = x := ⟨_, rfl⟩
  rw [hR]
  have HG : Hid (opF s (18 - 0) 0 = R) := Lib.hid hR
  clear hR hKT
  go_enter Tryd.func55, Tryd.ntmps55
  go_wp2_with (first | (refine wpList_load_mid rfl 79 (.global 0) rfl 0 0 rfl KT _ HR.out Tryd.underlying79 rfl HI.out ?_))
  go_loopw [7, 5, 4] (fun i _ _ wr => ∃ (k : Nat), k ≤ 18 ∧ i = .int .i64 k ∧ Hid (opF s (18 - k) k = R) ∧ Hid (Below w.heap.size w wr)) (fun i _ _ _ => 18 - (intOf i).toNat)
  case atStart => exact ⟨0, by omega, rfl, HG, Lib.hid (Below.refl _ _)⟩
  case round =>
    obtain ⟨k, hk, rfl, HK, HB⟩ := hrel
    by_cases hlt : k < 18
    · have hidx : ∀ W, (Instr.index 79 (.agg KT.toArray) (.int .i64 (k : Int))).run Tryd.prog W = .ok (.agg (kcell k).toArray) W := fun W => HX.out k hlt W
      have hg := HK.out
      rw [opF_step s k hlt] at hg
      obtain ⟨NM, hN⟩ : ∃ x, nm k = x := ⟨_, rfl⟩
      obtain ⟨F, hF⟩ : ∃ x, fol k = x := ⟨_, rfl⟩
      obtain ⟨C, hC⟩ : ∃ x, cst k = x := ⟨_, rfl⟩
      obtain ⟨T, hT⟩ : ∃ x, tks k = x := ⟨_, rfl⟩
      unfold kcell at hidx
      rw [hN, hF, hC, hT] at hidx
      rw [hN] at hg
      have hl : (k : Int) < 18 := by omega
      have hw8 : IntKind.u8.wrap (k : Int) = k := IntWalk.u8_in _ ⟨by omega, by omega⟩
      by_cases e : NM = s
      · rw [if_pos e] at hg
        subst e
        subst hg
        clear hN hF hC hT HK
        go_wp2
        go_ret2
        exact ⟨rfl, HB.out.alloc HB.out.size _⟩
      · rw [if_neg e] at hg
        have hne : (NM.toList == s.toList) = false := by
          rw [beq_eq_false_iff_ne]
          rw [ByteArray.toList_eq, ByteArray.toList_eq]
          exact fun h => e (ByteArray.ext (Array.ext' h))
        clear hN hF hC hT HK
        go_wp2
        go_roundw
        case rel => exact ⟨k + 1, by omega, by go_num, Lib.hid hg, Lib.hid (HB.out.alloc HB.out.size _)⟩
        case measure => simp [intOf]; omega
    · obtain rfl : k = 18 := by omega
      have hg := HK.out
      rw [show 18 - 18 = 0 by rfl, opF] at hg
      subst hg
      go_wp2
      go_ret2
      exact ⟨rfl, HB.out⟩
end Go.Proofs.YtkilajobnlagbaaDoor
