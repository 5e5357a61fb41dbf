/-
  CodeBack: the law's walk.
-/
import Derived.Test.YtkilajobnlagbaaDoorCodEH
import Derived.Laws.BytesString
import Derived.Stop.LaidErr
import Derived.Test.YtkilajobnlagbaaDoorCodT
namespace Go.Proofs.YtkilajobnlagbaaDoor
open Go.RowKit
set_option linter.unusedVariables false

/-- Bytes as a text. -/
def txtI (l : List Int) : ByteArray := l.foldl (fun r n => r.push (UInt8.ofNat n.toNat)) ByteArray.empty
theorem conv_src (w : World) (A : Option Addr) (c : Nat) (l : List Int) (hS : Oct.Src w A c l) : (convert 22 9 (.slice A l.length c)).run Tryd.prog w = .ok (.string (txtI l)) w := by
  rw [run_convert_bytes_string w 22 9 5 A l.length c Tryd.underlying22 Tryd.underlying5 Tryd.underlying9]
  rcases hS.2 with rfl | ⟨g, off, rfl, _, hc⟩
  · cases A with
    | none => rfl
    | some ad =>
      refine run_bytesToString w ad 0 c [] ?_
      exact run_loadCells_list w ad [] (by simp)
  · refine run_bytesToString w _ l.length c l ?_
    have h := run_loadCells_list (P := Tryd.prog) w ⟨g, off, none⟩ (l.map (Value.int .u8)) (by
      intro j v hv
      have hj : j < l.length := by
        have := (List.getElem?_eq_some_iff.1 hv).1
        simpa using this
      rw [Go.Addr.add_mid, hc j hj, ← hv]
      simp [List.getD, hj])
    simpa using h
theorem drew_src {w : World} {A : Option Addr} {c : Nat} {l : List Int} (h : Oct.Src w A c l) (q : Nat) : Oct.Src (w.drewN q) A c l := ⟨h.1, h.2⟩
theorem conv_drew (w : World) (A : Option Addr) (n c : Nat) (l : List Int) (hn : l.length = n) (hS : Oct.Src w A c l) (q : Nat) : (convert 22 9 (.slice A n c)).run Tryd.prog (w.drewN q) = .ok (.string (txtI l)) (w.drewN q) := by
  subst hn
  exact conv_src _ A c l (drew_src hS q)
theorem conv_any (w : World) (A : Option Addr) (n c : Nat) (l : List Int) (hn : l.length = n) (hS : Oct.Src w A c l) : (convert 22 9 (.slice A n c)).run Tryd.prog w = .ok (.string (txtI l)) w := by
  subst hn
  exact conv_src _ A c l hS

end Go.Proofs.YtkilajobnlagbaaDoor
