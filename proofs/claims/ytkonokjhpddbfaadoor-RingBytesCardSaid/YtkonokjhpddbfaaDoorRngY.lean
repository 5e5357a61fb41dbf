/-
  Numbers and small contracts for RingKeys: the document's rows held from afar, the taken keys as cells, Right (41), signatures of nothing.
-/
import Derived.Test.YtkonokjhpddbfaaDoorRngX
import Derived.Test.YtkonokjhpddbfaaDoorRngK
import Derived.Test.YtkonokjhpddbfaaDoorRngL
import Derived.Test.YtkonokjhpddbfaaDoorRngQ
namespace Go.Proofs.YtkonokjhpddbfaaDoor
open Go.RowKit
set_option linter.unusedVariables false

theorem OutAt.far {w w' : World} {base b : Nat} {v : Value} {seed : List Nat} {tall k : Nat} {t : TypeId} {cs : List Value} (h : OutAt w base v seed tall k) (hO : w.grownBy w' (some b)) (hb : Blk w b t cs) (h22 : t ≠ 22) (h29 : t ≠ 29) : OutAt w' base v seed tall k := by
  obtain ⟨ws, ho, hc⟩ := h
  refine ⟨ws, own_far ho hO (fun e => ?_), fun i hi => ?_⟩
  · obtain ⟨cs', hb'⟩ := own_block ho e
    exact Blk.ne_ hb hb' h22 rfl
  · obtain ⟨u, h1, h2, h3⟩ := hc i hi
    refine ⟨u, h1, own_far h2 hO (fun e => ?_), h3⟩
    obtain ⟨cs', hb'⟩ := own_block h2 e
    exact Blk.ne_ hb hb' h29 rfl
def zS : List Nat := List.replicate 1024 0
def zW : Nat → List Nat := fun _ => List.replicate 32 0
theorem zS_length : zS.length = 1024 := List.length_replicate
theorem zW_length (a : Nat) : (zW a).length = 32 := List.length_replicate
theorem zsig_arr9 : zsig.toArray = Tryd.zeroCells99 := zc99
theorem sig_put9 (S : List Nat) (key : Nat) (v : Value) (h : S.length = 1024) (hv : v.oneCell' = true) : ((Tryd.prog.info? 99).map (·.size) = some (rsg S key v).toArray.size) ∧ zsig.toArray.size = (rsg S key v).toArray.size ∧ (rsg S key v).toArray.all (·.oneCell') = true := by
  have e : (rsg S key v).toArray.size = 1026 := by rw [List.size_toArray, rsg_length _ _ _ h]
  refine ⟨by rw [e]; exact info99, ?_, all_oneCell_toArray (rsg_one S key _ hv)⟩
  rw [e, List.size_toArray, zsig_length]
end Go.Proofs.YtkonokjhpddbfaaDoor
