/-
  The walk of tollhouselaw05.RingSpends (function 14).
-/
import Derived.Test.YtkonokjhpddbfaaDoorGI
namespace Go.Proofs.YtkonokjhpddbfaaDoor
open Go.RowKit
set_option linter.unusedVariables false

theorem sig_put (S : List Nat) (key : Nat) (A : Option Addr) (n c : Nat) (h : S.length = 1024) : ((Tryd.prog.info? 94).map (·.size) = some (rsg S key (.slice A n c)).toArray.size) ∧ Tryd.zeroCells94.size = (rsg S key (.slice A n c)).toArray.size ∧ (rsg S key (.slice A n c)).toArray.all (·.oneCell') = true := by
  have e : (rsg S key (.slice A n c)).toArray.size = 1026 := by rw [List.size_toArray, rsg_length _ _ _ h]
  refine ⟨by rw [e]; exact info94, ?_, all_oneCell_toArray (rsg_one S key _ rfl)⟩
  rw [e, ← zsig_arr, List.size_toArray, zsig_length]

end Go.Proofs.YtkonokjhpddbfaaDoor
