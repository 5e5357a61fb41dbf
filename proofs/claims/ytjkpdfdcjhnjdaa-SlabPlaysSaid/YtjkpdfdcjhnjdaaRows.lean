/-
  No cell of these rows narrows 'for every input' (looked for: loops, veiled, ifaces, maps, wideKeys, modest, calm, conditions, laid).
  DERIVED. THE GIVEN ROWS OF THIS SEAT. 4 by the template 'for every input the law returns true; each argument reads behind the call as it read before'; 0 by the template 'total and deterministic' (their statements: YtjkpdfdcjhnjdaaTotals.lean).
  GIVEN WITH THE SEED: the statements are not yours to turn. If you find one false, say at which input.
  Laid BY PROGRAM, IN A SANDBOX (cutbox-rows.mjs): the forced cells as the released guide's own fill.sh prints them over the translation b44e0600cb02ffde… (all of the seat's roots in one cut). By AI agents, Wed Nov 11 2026. No macro, syntax, notation, axiom, sorry.
-/
import Derived.Test.YtjkpdfdcjhnjdaaChecked
import GoSem.Claim
import GoSem.ClaimJoined
import GoSem.ClaimMapViews
import Derived.JoinedTies
import Derived.KernelRfl
namespace Go.Proofs.Ytjkpdfdcjhnjdaa
/- THE CELL 'sum', in the pinned program and in every row, IS THE sha256 OF THE DUMP (.gsa) THAT YtjkpdfdcjhnjdaaProg.lean LOADS. Nothing in Lean hashes anything: it is a label: what it is worth is what the hold of that sum in a sandbox is worth. -/
noncomputable def Try.pinned : Pinned := { name := "ytjkpdfdcjhnjdaa", sum := "b44e0600cb02ffde8cff68572bb350efb87fddbfc4999b3681e18cebfbcb7c78", checked := Try.checked }
namespace Rows
def none {H : Type} : Left H := { results := [], args := [] }

/-- 'tollhouselaw16.SlabPlays': WHATEVER THE INPUT: true; the input reads as it did. -/
def slabPlaysSpec : ChangeSpec := { name := "slabPlays", fn := fun _ => fun
  | [d] => { results := [.lit (.bool true)], args := [d] }
  | _ => none }
def slabPlaysRow : OpenClaim := { program := "ytjkpdfdcjhnjdaa", sum := "b44e0600cb02ffde8cff68572bb350efb87fddbfc4999b3681e18cebfbcb7c78", func := "tollhouse/tollhouselaw16.SlabPlays", spec := "slabPlays", apart := false }
def SlabPlaysSaid : Prop := slabPlaysRow.holds Try.pinned (OpenSpec.ofChange slabPlaysSpec)

/-- ITS FALSE NEIGHBOUR: 'it returns false'. Refute it at one input. -/
def slabPlaysWrong : ChangeSpec := { name := "slabPlays", fn := fun _ => fun
  | [d] => { results := [.lit (.bool false)], args := [d] }
  | _ => none }
def SlabPlaysWrongFalsely : Prop := slabPlaysRow.holds Try.pinned (OpenSpec.ofChange slabPlaysWrong)

/-- 'tollhouselaw16.SlabLasts': WHATEVER THE INPUT: true; the input reads as it did. -/
def slabLastsSpec : ChangeSpec := { name := "slabLasts", fn := fun _ => fun
  | [d] => { results := [.lit (.bool true)], args := [d] }
  | _ => none }
def slabLastsRow : OpenClaim := { program := "ytjkpdfdcjhnjdaa", sum := "b44e0600cb02ffde8cff68572bb350efb87fddbfc4999b3681e18cebfbcb7c78", func := "tollhouse/tollhouselaw16.SlabLasts", spec := "slabLasts", apart := false }
def SlabLastsSaid : Prop := slabLastsRow.holds Try.pinned (OpenSpec.ofChange slabLastsSpec)

/-- ITS FALSE NEIGHBOUR: 'it returns false'. Refute it at one input. -/
def slabLastsWrong : ChangeSpec := { name := "slabLasts", fn := fun _ => fun
  | [d] => { results := [.lit (.bool false)], args := [d] }
  | _ => none }
def SlabLastsWrongFalsely : Prop := slabLastsRow.holds Try.pinned (OpenSpec.ofChange slabLastsWrong)

/-- 'tollhouselaw16.SlabNil': WHATEVER THE INPUT: true; the input reads as it did. -/
def slabNilSpec : ChangeSpec := { name := "slabNil", fn := fun _ => fun
  | [d1, d2] => { results := [.lit (.bool true)], args := [d1, d2] }
  | _ => none }
def slabNilRow : OpenClaim := { program := "ytjkpdfdcjhnjdaa", sum := "b44e0600cb02ffde8cff68572bb350efb87fddbfc4999b3681e18cebfbcb7c78", func := "tollhouse/tollhouselaw16.SlabNil", spec := "slabNil", apart := false }
def SlabNilSaid : Prop := slabNilRow.holds Try.pinned (OpenSpec.ofChange slabNilSpec)

/-- ITS FALSE NEIGHBOUR: 'it returns false'. Refute it at one input. -/
def slabNilWrong : ChangeSpec := { name := "slabNil", fn := fun _ => fun
  | [d1, d2] => { results := [.lit (.bool false)], args := [d1, d2] }
  | _ => none }
def SlabNilWrongFalsely : Prop := slabNilRow.holds Try.pinned (OpenSpec.ofChange slabNilWrong)

/-- 'tollhouselaw16.SlabRooms': WHATEVER THE INPUT: true; the input reads as it did. -/
def slabRoomsSpec : ChangeSpec := { name := "slabRooms", fn := fun _ => fun
  | [d1, d2] => { results := [.lit (.bool true)], args := [d1, d2] }
  | _ => none }
def slabRoomsRow : OpenClaim := { program := "ytjkpdfdcjhnjdaa", sum := "b44e0600cb02ffde8cff68572bb350efb87fddbfc4999b3681e18cebfbcb7c78", func := "tollhouse/tollhouselaw16.SlabRooms", spec := "slabRooms", apart := false }
def SlabRoomsSaid : Prop := slabRoomsRow.holds Try.pinned (OpenSpec.ofChange slabRoomsSpec)

/-- ITS FALSE NEIGHBOUR: 'it returns false'. Refute it at one input. -/
def slabRoomsWrong : ChangeSpec := { name := "slabRooms", fn := fun _ => fun
  | [d1, d2] => { results := [.lit (.bool false)], args := [d1, d2] }
  | _ => none }
def SlabRoomsWrongFalsely : Prop := slabRoomsRow.holds Try.pinned (OpenSpec.ofChange slabRoomsWrong)

/- THE SECOND FORM. 'bulk': how many values and letters a reading holds, each counted each time it is reached (what is shared counts as often as it is met; a slice's spare places count too). A statement '..UptoSaid' is the law's where the arguments, and the package variables that the reading takes, are together of bulk at most 1048576: NARROWER than '..Said'. Prove '..Said' where nothing that the law and all that it calls make is longer than what came in: it says more and counts as full. Else prove '..UptoSaid'. A law counts once. -/
mutual
def uptoBulk {H : Type} : DataW H → Nat
  | .lit (.string bytes) => bytes.length + 1
  | .lit _ => 1
  | .nil => 1
  | .ptr d => uptoBulk d + 1
  | .slice elems spare => uptoBulkAll elems + uptoBulkAll spare + 1
  | .agg parts => uptoBulkAll parts + 1
  | .iface _ d => uptoBulk d + 1
  | .map entries => uptoBulkEntries entries + 1
  | .held _ => 1
def uptoBulkAll {H : Type} : List (DataW H) → Nat
  | [] => 0
  | d :: r => uptoBulk d + uptoBulkAll r
def uptoBulkEntries {H : Type} : List (Lit × DataW H) → Nat
  | [] => 0
  | x :: r => uptoBulkEntry x + uptoBulkEntries r
def uptoBulkEntry {H : Type} : Lit × DataW H → Nat
  | (.string bytes, d) => bytes.length + uptoBulk d + 1
  | (_, d) => uptoBulk d + 1
 end
def uptoSmall : (H : Type) → List (DataW H) → Bool := fun _ ds => decide (uptoBulkAll ds ≤ 1048576)
def OpenSpec.upto (s : _root_.Go.ChangeSpec) : _root_.Go.OpenSpec := { _root_.Go.OpenSpec.ofChange s with cond := some uptoSmall }

/-- 'tollhouselaw16.SlabPlays', WHERE WHAT IT READS IS OF BULK AT MOST 1048576: true; the input reads as it did. -/
def slabPlaysUptoRow : OpenClaim := { program := "ytjkpdfdcjhnjdaa", sum := "b44e0600cb02ffde8cff68572bb350efb87fddbfc4999b3681e18cebfbcb7c78", func := "tollhouse/tollhouselaw16.SlabPlays", spec := "slabPlays", apart := false, narrowed := true }
def SlabPlaysUptoSaid : Prop := slabPlaysUptoRow.holds Try.pinned (OpenSpec.upto slabPlaysSpec)

/-- 'tollhouselaw16.SlabLasts', WHERE WHAT IT READS IS OF BULK AT MOST 1048576: true; the input reads as it did. -/
def slabLastsUptoRow : OpenClaim := { program := "ytjkpdfdcjhnjdaa", sum := "b44e0600cb02ffde8cff68572bb350efb87fddbfc4999b3681e18cebfbcb7c78", func := "tollhouse/tollhouselaw16.SlabLasts", spec := "slabLasts", apart := false, narrowed := true }
def SlabLastsUptoSaid : Prop := slabLastsUptoRow.holds Try.pinned (OpenSpec.upto slabLastsSpec)

/-- 'tollhouselaw16.SlabNil', WHERE WHAT IT READS IS OF BULK AT MOST 1048576: true; the input reads as it did. -/
def slabNilUptoRow : OpenClaim := { program := "ytjkpdfdcjhnjdaa", sum := "b44e0600cb02ffde8cff68572bb350efb87fddbfc4999b3681e18cebfbcb7c78", func := "tollhouse/tollhouselaw16.SlabNil", spec := "slabNil", apart := false, narrowed := true }
def SlabNilUptoSaid : Prop := slabNilUptoRow.holds Try.pinned (OpenSpec.upto slabNilSpec)

/-- 'tollhouselaw16.SlabRooms', WHERE WHAT IT READS IS OF BULK AT MOST 1048576: true; the input reads as it did. -/
def slabRoomsUptoRow : OpenClaim := { program := "ytjkpdfdcjhnjdaa", sum := "b44e0600cb02ffde8cff68572bb350efb87fddbfc4999b3681e18cebfbcb7c78", func := "tollhouse/tollhouselaw16.SlabRooms", spec := "slabRooms", apart := false, narrowed := true }
def SlabRoomsUptoSaid : Prop := slabRoomsUptoRow.holds Try.pinned (OpenSpec.upto slabRoomsSpec)

end Rows
end Go.Proofs.Ytjkpdfdcjhnjdaa
