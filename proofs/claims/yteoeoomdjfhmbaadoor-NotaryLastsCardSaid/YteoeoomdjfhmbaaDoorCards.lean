/-
  DERIVED. GIVEN WITH THE SEED: THE CARDS: each row of YteoeoomdjfhmbaaDoorRows.lean that lists a variable, with what it lists TIED to the program's text (the seventh form; the later family's looks); each row that meets fmt, with fmt's text TOLD by the authors' own Lean function (tested against real Go, not proved from fmt's source: count such statements apart). THE CARD IS WHAT COUNTS. Prove the row's statement (the work); the ties are given (YteoeoomdjfhmbaaDoorTie.lean); close each card by the builder's one call (the guide's Derived/Test/ToyasCard.lean, 'card_holds'). Laid BY PROGRAM, IN A SANDBOX (cutbox-door.mjs). By AI agents, Wed Nov 11 2026. No macro, syntax, notation, axiom, sorry.
-/
import Derived.Test.YteoeoomdjfhmbaaDoorRows
import GoSem.ClaimSeven
namespace Go.Proofs.YteoeoomdjfhmbaaDoor
namespace Rows

/-- THE TIED CARD OF 'tollhouselaw10.NotaryPlays'. -/
def notaryPlaysCard : Claim7 := { stood := { row := notaryPlaysRow, standIns := [], harness := (true, "c375fd9cdb4e681fba0267c8f088ca047afad24618858ac988b09eabd4d04efd"), looks := true }, kinds := [], alts := [], laidByText := true, laidKinds := [.data], laidTests := true, laidLooks := .later }
def NotaryPlaysCardSaid : Prop := Claim7.holds Tryd.pinned (.plain (OpenSpec.ofChange notaryPlaysSpec)) notaryPlaysCard

/-- THE TIED CARD OF 'tollhouselaw10.NotaryLasts'. -/
def notaryLastsCard : Claim7 := { stood := { row := notaryLastsRow, standIns := [], harness := (true, "c375fd9cdb4e681fba0267c8f088ca047afad24618858ac988b09eabd4d04efd"), looks := true }, kinds := [], alts := [], laidByText := true, laidKinds := [.data], laidTests := true, laidLooks := .later }
def NotaryLastsCardSaid : Prop := Claim7.holds Tryd.pinned (.plain (OpenSpec.ofChange notaryLastsSpec)) notaryLastsCard

/-- THE TIED CARD OF 'tollhouselaw10.NotaryFirst'. -/
def notaryFirstCard : Claim7 := { stood := { row := notaryFirstRow, standIns := [], harness := (true, "c375fd9cdb4e681fba0267c8f088ca047afad24618858ac988b09eabd4d04efd"), looks := true }, kinds := [], alts := [], laidByText := true, laidKinds := [.data], laidTests := true, laidLooks := .later }
def NotaryFirstCardSaid : Prop := Claim7.holds Tryd.pinned (.plain (OpenSpec.ofChange notaryFirstSpec)) notaryFirstCard

/-- THE SECOND FORM's CARD OF 'tollhouselaw10.NotaryPlays'. -/
def notaryPlaysUptoCard : Claim7 := { stood := { row := notaryPlaysUptoRow, standIns := [], harness := (true, "c375fd9cdb4e681fba0267c8f088ca047afad24618858ac988b09eabd4d04efd"), looks := true }, kinds := [], alts := [], laidByText := true, laidKinds := [.data], laidTests := true, laidLooks := .later }
def NotaryPlaysUptoCardSaid : Prop := Claim7.holds Tryd.pinned (.plain (OpenSpec.upto notaryPlaysSpec)) notaryPlaysUptoCard

/-- THE SECOND FORM's CARD OF 'tollhouselaw10.NotaryLasts'. -/
def notaryLastsUptoCard : Claim7 := { stood := { row := notaryLastsUptoRow, standIns := [], harness := (true, "c375fd9cdb4e681fba0267c8f088ca047afad24618858ac988b09eabd4d04efd"), looks := true }, kinds := [], alts := [], laidByText := true, laidKinds := [.data], laidTests := true, laidLooks := .later }
def NotaryLastsUptoCardSaid : Prop := Claim7.holds Tryd.pinned (.plain (OpenSpec.upto notaryLastsSpec)) notaryLastsUptoCard

/-- THE SECOND FORM's CARD OF 'tollhouselaw10.NotaryFirst'. -/
def notaryFirstUptoCard : Claim7 := { stood := { row := notaryFirstUptoRow, standIns := [], harness := (true, "c375fd9cdb4e681fba0267c8f088ca047afad24618858ac988b09eabd4d04efd"), looks := true }, kinds := [], alts := [], laidByText := true, laidKinds := [.data], laidTests := true, laidLooks := .later }
def NotaryFirstUptoCardSaid : Prop := Claim7.holds Tryd.pinned (.plain (OpenSpec.upto notaryFirstSpec)) notaryFirstUptoCard
end Rows
end Go.Proofs.YteoeoomdjfhmbaaDoor
