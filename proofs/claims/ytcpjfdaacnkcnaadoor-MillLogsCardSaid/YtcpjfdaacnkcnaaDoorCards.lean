/-
  DERIVED. GIVEN WITH THE SEED: THE CARDS: each row of YtcpjfdaacnkcnaaDoorRows.lean that lists a variable, with what it lists TIED to the program's text (the seventh form; the later family's looks); each row that meets fmt, with fmt's text TOLD by the authors' own Lean function (tested against real Go, not proved from fmt's source: count such statements apart). THE CARD IS WHAT COUNTS. Prove the row's statement (the work); the ties are given (YtcpjfdaacnkcnaaDoorTie.lean); close each card by the builder's one call (the guide's Derived/Test/ToyasCard.lean, 'card_holds'). Laid BY PROGRAM, IN A SANDBOX (cutbox-door.mjs). By AI agents, Wed Nov 11 2026. No macro, syntax, notation, axiom, sorry.
-/
import Derived.Test.YtcpjfdaacnkcnaaDoorRows
import GoSem.ClaimSeven
namespace Go.Proofs.YtcpjfdaacnkcnaaDoor
namespace Rows

/-- THE TIED CARD OF 'tollhouselaw03.MillSums'. -/
def millSumsCard : Claim7 := { stood := { row := millSumsRow, standIns := [], harness := (true, "43a377eea469199ec64360690401a7dd11bb3ed1f8f25fca560c869aaaa6f18c"), looks := false }, kinds := [], alts := [], laidByText := true, laidKinds := [.data], laidTests := true, laidLooks := .later }
def MillSumsCardSaid : Prop := Claim7.holds Tryd.pinned (.plain (OpenSpec.ofChange millSumsSpec)) millSumsCard

/-- THE TIED CARD OF 'tollhouselaw03.MillParts'. -/
def millPartsCard : Claim7 := { stood := { row := millPartsRow, standIns := [], harness := (true, "43a377eea469199ec64360690401a7dd11bb3ed1f8f25fca560c869aaaa6f18c"), looks := false }, kinds := [], alts := [], laidByText := true, laidKinds := [.data], laidTests := true, laidLooks := .later }
def MillPartsCardSaid : Prop := Claim7.holds Tryd.pinned (.plain (OpenSpec.ofChange millPartsSpec)) millPartsCard

/-- THE TIED CARD OF 'tollhouselaw03.MillFor'. -/
def millForCard : Claim7 := { stood := { row := millForRow, standIns := [], harness := (true, "43a377eea469199ec64360690401a7dd11bb3ed1f8f25fca560c869aaaa6f18c"), looks := false }, kinds := [], alts := [], laidByText := true, laidKinds := [.data], laidTests := true, laidLooks := .later }
def MillForCardSaid : Prop := Claim7.holds Tryd.pinned (.plain (OpenSpec.ofChange millForSpec)) millForCard

/-- THE TIED CARD OF 'tollhouselaw03.MillApart'. -/
def millApartCard : Claim7 := { stood := { row := millApartRow, standIns := [], harness := (true, "43a377eea469199ec64360690401a7dd11bb3ed1f8f25fca560c869aaaa6f18c"), looks := false }, kinds := [], alts := [], laidByText := true, laidKinds := [.data], laidTests := true, laidLooks := .later }
def MillApartCardSaid : Prop := Claim7.holds Tryd.pinned (.plain (OpenSpec.ofChange millApartSpec)) millApartCard

/-- THE TIED CARD OF 'tollhouselaw03.MillLogs'. -/
def millLogsCard : Claim7 := { stood := { row := millLogsRow, standIns := [], harness := (true, "43a377eea469199ec64360690401a7dd11bb3ed1f8f25fca560c869aaaa6f18c"), looks := false }, kinds := [], alts := [], laidByText := true, laidKinds := [.data], laidTests := true, laidLooks := .later }
def MillLogsCardSaid : Prop := Claim7.holds Tryd.pinned (.plain (OpenSpec.ofChange millLogsSpec)) millLogsCard

/-- THE TIED CARD OF 'tollhouselaw03.MillGoes'. -/
def millGoesCard : Claim7 := { stood := { row := millGoesRow, standIns := [], harness := (true, "43a377eea469199ec64360690401a7dd11bb3ed1f8f25fca560c869aaaa6f18c"), looks := false }, kinds := [], alts := [], laidByText := true, laidKinds := [.data], laidTests := true, laidLooks := .later }
def MillGoesCardSaid : Prop := Claim7.holds Tryd.pinned (.plain (OpenSpec.ofChange millGoesSpec)) millGoesCard

/-- THE SECOND FORM's CARD OF 'tollhouselaw03.MillSums'. -/
def millSumsUptoCard : Claim7 := { stood := { row := millSumsUptoRow, standIns := [], harness := (true, "43a377eea469199ec64360690401a7dd11bb3ed1f8f25fca560c869aaaa6f18c"), looks := false }, kinds := [], alts := [], laidByText := true, laidKinds := [.data], laidTests := true, laidLooks := .later }
def MillSumsUptoCardSaid : Prop := Claim7.holds Tryd.pinned (.plain (OpenSpec.upto millSumsSpec)) millSumsUptoCard

/-- THE SECOND FORM's CARD OF 'tollhouselaw03.MillParts'. -/
def millPartsUptoCard : Claim7 := { stood := { row := millPartsUptoRow, standIns := [], harness := (true, "43a377eea469199ec64360690401a7dd11bb3ed1f8f25fca560c869aaaa6f18c"), looks := false }, kinds := [], alts := [], laidByText := true, laidKinds := [.data], laidTests := true, laidLooks := .later }
def MillPartsUptoCardSaid : Prop := Claim7.holds Tryd.pinned (.plain (OpenSpec.upto millPartsSpec)) millPartsUptoCard

/-- THE SECOND FORM's CARD OF 'tollhouselaw03.MillFor'. -/
def millForUptoCard : Claim7 := { stood := { row := millForUptoRow, standIns := [], harness := (true, "43a377eea469199ec64360690401a7dd11bb3ed1f8f25fca560c869aaaa6f18c"), looks := false }, kinds := [], alts := [], laidByText := true, laidKinds := [.data], laidTests := true, laidLooks := .later }
def MillForUptoCardSaid : Prop := Claim7.holds Tryd.pinned (.plain (OpenSpec.upto millForSpec)) millForUptoCard

/-- THE SECOND FORM's CARD OF 'tollhouselaw03.MillApart'. -/
def millApartUptoCard : Claim7 := { stood := { row := millApartUptoRow, standIns := [], harness := (true, "43a377eea469199ec64360690401a7dd11bb3ed1f8f25fca560c869aaaa6f18c"), looks := false }, kinds := [], alts := [], laidByText := true, laidKinds := [.data], laidTests := true, laidLooks := .later }
def MillApartUptoCardSaid : Prop := Claim7.holds Tryd.pinned (.plain (OpenSpec.upto millApartSpec)) millApartUptoCard

/-- THE SECOND FORM's CARD OF 'tollhouselaw03.MillLogs'. -/
def millLogsUptoCard : Claim7 := { stood := { row := millLogsUptoRow, standIns := [], harness := (true, "43a377eea469199ec64360690401a7dd11bb3ed1f8f25fca560c869aaaa6f18c"), looks := false }, kinds := [], alts := [], laidByText := true, laidKinds := [.data], laidTests := true, laidLooks := .later }
def MillLogsUptoCardSaid : Prop := Claim7.holds Tryd.pinned (.plain (OpenSpec.upto millLogsSpec)) millLogsUptoCard

/-- THE SECOND FORM's CARD OF 'tollhouselaw03.MillGoes'. -/
def millGoesUptoCard : Claim7 := { stood := { row := millGoesUptoRow, standIns := [], harness := (true, "43a377eea469199ec64360690401a7dd11bb3ed1f8f25fca560c869aaaa6f18c"), looks := false }, kinds := [], alts := [], laidByText := true, laidKinds := [.data], laidTests := true, laidLooks := .later }
def MillGoesUptoCardSaid : Prop := Claim7.holds Tryd.pinned (.plain (OpenSpec.upto millGoesSpec)) millGoesUptoCard
end Rows
end Go.Proofs.YtcpjfdaacnkcnaaDoor
