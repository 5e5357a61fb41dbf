/-
  tollhouselaw01.awake (function 15): the document's example of octet answers true; memory that was there stays as it was. And string(b) of bytes that are read.
-/
import Derived.Test.YtbdjlnejlkiijaaDoorRRROctOut
import Derived.Lib.SlBytesConst
namespace Go.Proofs.YtbdjlnejlkiijaaDoorRRR.Oct
open Go.RowKit
set_option linter.unusedVariables false

/-- Bytes as a text. -/
def txt (l : List Int) : ByteArray := l.foldl (fun r n => r.push (UInt8.ofNat n.toNat)) ByteArray.empty

theorem to_string (w : World) (A : Option Addr) (c n : Nat) (l : List Int) (hn : n = l.length) (hS : Src w A c l) : (convert 36 9 (.slice A n c)).run Tryd.prog w = .ok (.string (txt l)) w := by
  subst hn
  rw [run_convert_bytes_string w 36 9 5 A l.length c Tryd.underlying36 Tryd.underlying5 Tryd.underlying9]
  rcases hS.2 with rfl | ⟨b, off, rfl, _, hc⟩
  · cases A with
    | none => rfl
    | some ad =>
      refine run_bytesToString w ad 0 c [] ?_
      exact run_loadCells_list w ad [] (by simp)
  · refine run_bytesToString w _ l.length c l ?_
    have h := run_loadCells_list (P := Tryd.prog) w ⟨b, off, none⟩ (l.map (Value.int .u8)) (by
      intro j v hv
      have hj : j < l.length := by
        have := (List.getElem?_eq_some_iff.1 hv).1
        simpa using this
      rw [Go.WideShapes.add_plain, hc j hj, ← hv]
      simp [List.getD, hj])
    simpa using h

theorem Src.litm (w : World) (cs : Array Value) (fr : Nat × Nat) (l : List Int) (h : cs.toList = byt l) : Src (w.alloc (.cells cs 5 fr)) (some ⟨w.heap.size, 0, none⟩) l.length l := by
  refine ⟨fun h => (by cases h), .inr ⟨w.heap.size, 0, rfl, by simp, fun i hi => ?_⟩⟩
  rw [Nat.zero_add, World.cell?_alloc_mark, ← Array.getElem?_toList, h]
  simp [byt, List.getD, hi]

end Go.Proofs.YtbdjlnejlkiijaaDoorRRR.Oct
