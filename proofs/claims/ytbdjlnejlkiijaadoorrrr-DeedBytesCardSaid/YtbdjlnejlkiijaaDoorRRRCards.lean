/-
  DERIVED. GIVEN WITH THE SEED: THE CARDS: each row of YtbdjlnejlkiijaaDoorRRRRows.lean that lists a variable, with what it lists TIED to the program's text (the seventh form; the later family's looks); each row that meets fmt, with fmt's text TOLD by the authors' own Lean function (tested against real Go, not proved from fmt's source: count such statements apart). THE CARD IS WHAT COUNTS. Prove the row's statement (the work); the ties are given (YtbdjlnejlkiijaaDoorRRRTie.lean); close each card by the builder's one call (the guide's Derived/Test/ToyasCard.lean, 'card_holds'). Laid BY PROGRAM, IN A SANDBOX (cutbox-door.mjs). By AI agents, Wed Nov 11 2026. No macro, syntax, notation, axiom, sorry.
-/
import Derived.Test.YtbdjlnejlkiijaaDoorRRRRows
import GoSem.ClaimSeven
namespace Go.Proofs.YtbdjlnejlkiijaaDoorRRR
namespace Rows

/-- THE TIED CARD OF 'tollhouselaw13.DeedBytes'. -/
def deedBytesCard : Claim7 := { stood := { row := deedBytesRow, standIns := [], harness := (true, "668c94dcf223205a78a070bc8f4d6812e2508e7253ba339f44d2d5be3820c167"), looks := false }, kinds := [], alts := [], laidByText := true, laidKinds := [.data], laidTests := true, laidLooks := .later }
def DeedBytesCardSaid : Prop := Claim7.holds Tryd.pinned (.plain (OpenSpec.ofChange deedBytesSpec)) deedBytesCard

/-- THE TIED CARD OF 'tollhouselaw13.DeedSigns'. -/
def deedSignsCard : Claim7 := { stood := { row := deedSignsRow, standIns := [], harness := (true, "668c94dcf223205a78a070bc8f4d6812e2508e7253ba339f44d2d5be3820c167"), looks := false }, kinds := [], alts := [], laidByText := true, laidKinds := [.data], laidTests := true, laidLooks := .later }
def DeedSignsCardSaid : Prop := Claim7.holds Tryd.pinned (.plain (OpenSpec.ofChange deedSignsSpec)) deedSignsCard

/-- THE SECOND FORM's CARD OF 'tollhouselaw13.DeedBytes'. -/
def deedBytesUptoCard : Claim7 := { stood := { row := deedBytesUptoRow, standIns := [], harness := (true, "668c94dcf223205a78a070bc8f4d6812e2508e7253ba339f44d2d5be3820c167"), looks := false }, kinds := [], alts := [], laidByText := true, laidKinds := [.data], laidTests := true, laidLooks := .later }
def DeedBytesUptoCardSaid : Prop := Claim7.holds Tryd.pinned (.plain (OpenSpec.upto deedBytesSpec)) deedBytesUptoCard

/-- THE SECOND FORM's CARD OF 'tollhouselaw13.DeedSigns'. -/
def deedSignsUptoCard : Claim7 := { stood := { row := deedSignsUptoRow, standIns := [], harness := (true, "668c94dcf223205a78a070bc8f4d6812e2508e7253ba339f44d2d5be3820c167"), looks := false }, kinds := [], alts := [], laidByText := true, laidKinds := [.data], laidTests := true, laidLooks := .later }
def DeedSignsUptoCardSaid : Prop := Claim7.holds Tryd.pinned (.plain (OpenSpec.upto deedSignsSpec)) deedSignsUptoCard
end Rows
end Go.Proofs.YtbdjlnejlkiijaaDoorRRR
