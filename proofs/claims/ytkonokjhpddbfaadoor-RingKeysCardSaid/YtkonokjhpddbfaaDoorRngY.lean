/-
  Numbers and small contracts for RingKeys: the document's rows held from afar, the taken keys as cells, Right (41), signatures of nothing.
-/
import Derived.Test.YtkonokjhpddbfaaDoorRngX
import Derived.Test.YtkonokjhpddbfaaDoorRngR
namespace Go.Proofs.YtkonokjhpddbfaaDoor
open Go.RowKit
set_option linter.unusedVariables false

theorem OutAt.far {w w' : World} {base b : Nat} {v : Value} {seed : List Nat} {tall k : Nat} {t : TypeId} {cs : List Value} (h : OutAt w base v seed tall k) (hO : w.grownBy w' (some b)) (hb : Blk w b t cs) (h22 : t ≠ 22) (h29 : t ≠ 29) : OutAt w' base v seed tall k := by
  obtain ⟨ws, ho, hc⟩ := h
  refine ⟨ws, own_far ho hO (fun e => ?_), fun i hi => ?_⟩
  · obtain ⟨cs', hb'⟩ := own_block ho e
    exact Blk.ne_ hb hb' h22 rfl
  · obtain ⟨u, h1, h2, h3⟩ := hc i hi
    refine ⟨u, h1, own_far h2 hO (fun e => ?_), h3⟩
    obtain ⟨cs', hb'⟩ := own_block h2 e
    exact Blk.ne_ hb hb' h29 rfl
/-- The taken keys as cells. -/
def tkc (tk : List Bool) (n : Nat) : List Value := (tk.take n).map Value.bool
theorem tkc_length (tk : List Bool) (n : Nat) (h : n ≤ tk.length) : (tkc tk n).length = n := by simp [tkc]; omega
theorem tkc_set (tk : List Bool) (n k : Nat) : (tkc tk n).set k (.bool true) = tkc (tk.set k true) n := by
  unfold tkc
  rw [List.take_set, List.map_set]
theorem tkc_get (tk : List Bool) (n k : Nat) (hk : k < n) (hl : n ≤ tk.length) : (tkc tk n)[k]? = some (.bool (tk.getD k false)) := by
  unfold tkc
  rw [List.getElem?_map, List.getElem?_take, if_pos hk, List.getD_eq_getElem?_getD, List.getElem?_eq_getElem (by omega)]
  rfl
theorem set_same (tk : List Bool) (k : Nat) (hk : k < tk.length) (h : tk.getD k false = true) : tk.set k true = tk := by
  rw [List.getD_eq_getElem?_getD, List.getElem?_eq_getElem hk, Option.getD_some] at h
  rw [← h, List.set_getElem_self]
theorem tkc_start (n : Nat) (h : n ≤ 256) : tkc (List.replicate 256 false) n = List.replicate n (.bool false) := by
  unfold tkc
  rw [List.take_replicate, Nat.min_eq_left h, List.map_replicate]
theorem set_got (tk : List Bool) (k : Nat) (hk : k < tk.length) : (tk.set k true).getD k false = true := by
  rw [List.getD_eq_getElem?_getD, List.getElem?_set_self hk]
  rfl
theorem refright_yes (tall : Int) (w : World) (h0 : 0 ≤ tall) (h8 : tall ≤ 8) : Calls Tryd.prog 41 #[.int .i64 tall] w fun e w' => e = .returned (.bool true) ∧ Below w.heap.size w w' := by
  go_enter Tryd.func41, Tryd.ntmps41
  go_wp2
  go_ret
  exact ⟨rfl, below_drewN (Below.refl _ _) 0⟩
theorem refright_no (tall : Int) (w : World) (h : tall < 0 ∨ 8 < tall) : Calls Tryd.prog 41 #[.int .i64 tall] w fun e w' => e = .returned (.bool false) ∧ Below w.heap.size w w' := by
  go_enter Tryd.func41, Tryd.ntmps41
  by_cases h0 : tall < 0
  · go_wp2
    go_ret
    exact ⟨rfl, below_drewN (Below.refl _ _) 0⟩
  · have h8 : 8 < tall := by omega
    have h1 : 0 ≤ tall := by omega
    go_wp2
    go_ret
    exact ⟨by rw [decide_eq_false (show ¬ tall ≤ 8 by omega)]; rfl, below_drewN (Below.refl _ _) 0⟩
def zS : List Nat := List.replicate 1024 0
def zW : Nat → List Nat := fun _ => List.replicate 32 0
theorem zS_length : zS.length = 1024 := List.length_replicate
theorem zW_length (a : Nat) : (zW a).length = 32 := List.length_replicate
theorem zsig_arr9 : zsig.toArray = Tryd.zeroCells99 := zc99
theorem from_zero (w : World) : Calls Tryd.prog 53 #[.agg zsig.toArray] w fun e w' => ∃ v, e = .returned (.agg (rsg zS 0 v).toArray) ∧ WayR w' v zW 0 ∧ Below w.heap.size w w' :=
  rfrom5_any zS 0 0 none 0 zW w (Lib.hid zS_length) (Lib.hid zW_length) (Lib.hid ⟨none, 0, rfl, .inl rfl⟩) (by omega)
theorem same_zero (v : Value) (w : World) (HV : Hid (WayR w v zW 0)) : Calls Tryd.prog 52 #[.agg (rsg zS 0 v).toArray, .agg zsig.toArray] w fun e w' => e = .returned (.bool true) ∧ Below w.heap.size w w' :=
  same_eq zS 0 0 v (.slice none 0 0) zW w (Lib.hid zS_length) (Lib.hid zW_length) HV (Lib.hid ⟨none, 0, rfl, .inl rfl⟩) (by omega)
theorem sig_put9 (S : List Nat) (key : Nat) (v : Value) (h : S.length = 1024) (hv : v.oneCell' = true) : ((Tryd.prog.info? 99).map (·.size) = some (rsg S key v).toArray.size) ∧ zsig.toArray.size = (rsg S key v).toArray.size ∧ (rsg S key v).toArray.all (·.oneCell') = true := by
  have e : (rsg S key v).toArray.size = 1026 := by rw [List.size_toArray, rsg_length _ _ _ h]
  refine ⟨by rw [e]; exact info99, ?_, all_oneCell_toArray (rsg_one S key _ hv)⟩
  rw [e, List.size_toArray, zsig_length]
end Go.Proofs.YtkonokjhpddbfaaDoor
