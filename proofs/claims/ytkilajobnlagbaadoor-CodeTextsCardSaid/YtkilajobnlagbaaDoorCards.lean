/-
  DERIVED. GIVEN WITH THE SEED: THE CARDS: each row of YtkilajobnlagbaaDoorRows.lean that lists a variable, with what it lists TIED to the program's text (the seventh form; the later family's looks); each row that meets fmt, with fmt's text TOLD by the authors' own Lean function (tested against real Go, not proved from fmt's source: count such statements apart). THE CARD IS WHAT COUNTS. Prove the row's statement (the work); the ties are given (YtkilajobnlagbaaDoorTie.lean); close each card by the builder's one call (the guide's Derived/Test/ToyasCard.lean, 'card_holds'). Laid BY PROGRAM, IN A SANDBOX (cutbox-door.mjs). By AI agents, Wed Nov 11 2026. No macro, syntax, notation, axiom, sorry.
-/
import Derived.Test.YtkilajobnlagbaaDoorRows
import GoSem.ClaimSeven
namespace Go.Proofs.YtkilajobnlagbaaDoor
namespace Rows

/-- THE TIED CARD OF 'tollhouselaw11.CodeRuns'. -/
def codeRunsCard : Claim7 := { stood := { row := codeRunsRow, standIns := [], harness := (true, "035f0d59db1e25b9fee671cef5f974b297222dbe30c25feee31e7d93675e3a26"), looks := true }, kinds := [], alts := [], laidByText := true, laidKinds := [.data, .data, .data, .data, .sentinel, .sentinel, .data, .pinned], laidTests := true, laidLooks := .later }
def CodeRunsCardSaid : Prop := Claim7.holds Tryd.pinned (.plain (OpenSpec.ofChange codeRunsSpec)) codeRunsCard

/-- THE TIED CARD OF 'tollhouselaw11.CodeTexts'. -/
def codeTextsCard : Claim7 := { stood := { row := codeTextsRow, standIns := [], harness := (true, "035f0d59db1e25b9fee671cef5f974b297222dbe30c25feee31e7d93675e3a26"), looks := true }, kinds := [], alts := [], laidByText := true, laidKinds := [.data, .data, .data, .data, .sentinel, .sentinel, .data, .pinned], laidTests := true, laidLooks := .later }
def CodeTextsCardSaid : Prop := Claim7.holds Tryd.pinned (.plain (OpenSpec.ofChange codeTextsSpec)) codeTextsCard

/-- THE TIED CARD OF 'tollhouselaw11.CodeBack'. -/
def codeBackCard : Claim7 := { stood := { row := codeBackRow, standIns := [], harness := (true, "035f0d59db1e25b9fee671cef5f974b297222dbe30c25feee31e7d93675e3a26"), looks := true }, kinds := [], alts := [], laidByText := true, laidKinds := [.data, .data, .data, .data, .sentinel, .sentinel, .data, .pinned], laidTests := true, laidLooks := .later }
def CodeBackCardSaid : Prop := Claim7.holds Tryd.pinned (.plain (OpenSpec.ofChange codeBackSpec)) codeBackCard

/-- THE TIED CARD OF 'tollhouselaw11.CodeGas'. -/
def codeGasCard : Claim7 := { stood := { row := codeGasRow, standIns := [], harness := (true, "035f0d59db1e25b9fee671cef5f974b297222dbe30c25feee31e7d93675e3a26"), looks := true }, kinds := [], alts := [], laidByText := true, laidKinds := [.data, .data, .data, .data, .sentinel, .sentinel, .data, .pinned], laidTests := true, laidLooks := .later }
def CodeGasCardSaid : Prop := Claim7.holds Tryd.pinned (.plain (OpenSpec.ofChange codeGasSpec)) codeGasCard

/-- THE TIED CARD OF 'tollhouselaw11.CodeAsks'. -/
def codeAsksCard : Claim7 := { stood := { row := codeAsksRow, standIns := [], harness := (true, "035f0d59db1e25b9fee671cef5f974b297222dbe30c25feee31e7d93675e3a26"), looks := true }, kinds := [], alts := [], laidByText := true, laidKinds := [.data, .data, .data, .data, .sentinel, .sentinel, .data, .pinned], laidTests := true, laidLooks := .later }
def CodeAsksCardSaid : Prop := Claim7.holds Tryd.pinned (.plain (OpenSpec.ofChange codeAsksSpec)) codeAsksCard

/-- THE TIED CARD OF 'tollhouselaw11.CodeStacks'. -/
def codeStacksCard : Claim7 := { stood := { row := codeStacksRow, standIns := [], harness := (true, "035f0d59db1e25b9fee671cef5f974b297222dbe30c25feee31e7d93675e3a26"), looks := true }, kinds := [], alts := [], laidByText := true, laidKinds := [.data, .data, .data, .data, .sentinel, .sentinel, .data, .pinned], laidTests := true, laidLooks := .later }
def CodeStacksCardSaid : Prop := Claim7.holds Tryd.pinned (.plain (OpenSpec.ofChange codeStacksSpec)) codeStacksCard

/-- THE SECOND FORM's CARD OF 'tollhouselaw11.CodeRuns'. -/
def codeRunsUptoCard : Claim7 := { stood := { row := codeRunsUptoRow, standIns := [], harness := (true, "035f0d59db1e25b9fee671cef5f974b297222dbe30c25feee31e7d93675e3a26"), looks := true }, kinds := [], alts := [], laidByText := true, laidKinds := [.data, .data, .data, .data, .sentinel, .sentinel, .data, .pinned], laidTests := true, laidLooks := .later }
def CodeRunsUptoCardSaid : Prop := Claim7.holds Tryd.pinned (.plain (OpenSpec.upto codeRunsSpec)) codeRunsUptoCard

/-- THE SECOND FORM's CARD OF 'tollhouselaw11.CodeTexts'. -/
def codeTextsUptoCard : Claim7 := { stood := { row := codeTextsUptoRow, standIns := [], harness := (true, "035f0d59db1e25b9fee671cef5f974b297222dbe30c25feee31e7d93675e3a26"), looks := true }, kinds := [], alts := [], laidByText := true, laidKinds := [.data, .data, .data, .data, .sentinel, .sentinel, .data, .pinned], laidTests := true, laidLooks := .later }
def CodeTextsUptoCardSaid : Prop := Claim7.holds Tryd.pinned (.plain (OpenSpec.upto codeTextsSpec)) codeTextsUptoCard

/-- THE SECOND FORM's CARD OF 'tollhouselaw11.CodeBack'. -/
def codeBackUptoCard : Claim7 := { stood := { row := codeBackUptoRow, standIns := [], harness := (true, "035f0d59db1e25b9fee671cef5f974b297222dbe30c25feee31e7d93675e3a26"), looks := true }, kinds := [], alts := [], laidByText := true, laidKinds := [.data, .data, .data, .data, .sentinel, .sentinel, .data, .pinned], laidTests := true, laidLooks := .later }
def CodeBackUptoCardSaid : Prop := Claim7.holds Tryd.pinned (.plain (OpenSpec.upto codeBackSpec)) codeBackUptoCard

/-- THE SECOND FORM's CARD OF 'tollhouselaw11.CodeGas'. -/
def codeGasUptoCard : Claim7 := { stood := { row := codeGasUptoRow, standIns := [], harness := (true, "035f0d59db1e25b9fee671cef5f974b297222dbe30c25feee31e7d93675e3a26"), looks := true }, kinds := [], alts := [], laidByText := true, laidKinds := [.data, .data, .data, .data, .sentinel, .sentinel, .data, .pinned], laidTests := true, laidLooks := .later }
def CodeGasUptoCardSaid : Prop := Claim7.holds Tryd.pinned (.plain (OpenSpec.upto codeGasSpec)) codeGasUptoCard

/-- THE SECOND FORM's CARD OF 'tollhouselaw11.CodeAsks'. -/
def codeAsksUptoCard : Claim7 := { stood := { row := codeAsksUptoRow, standIns := [], harness := (true, "035f0d59db1e25b9fee671cef5f974b297222dbe30c25feee31e7d93675e3a26"), looks := true }, kinds := [], alts := [], laidByText := true, laidKinds := [.data, .data, .data, .data, .sentinel, .sentinel, .data, .pinned], laidTests := true, laidLooks := .later }
def CodeAsksUptoCardSaid : Prop := Claim7.holds Tryd.pinned (.plain (OpenSpec.upto codeAsksSpec)) codeAsksUptoCard

/-- THE SECOND FORM's CARD OF 'tollhouselaw11.CodeStacks'. -/
def codeStacksUptoCard : Claim7 := { stood := { row := codeStacksUptoRow, standIns := [], harness := (true, "035f0d59db1e25b9fee671cef5f974b297222dbe30c25feee31e7d93675e3a26"), looks := true }, kinds := [], alts := [], laidByText := true, laidKinds := [.data, .data, .data, .data, .sentinel, .sentinel, .data, .pinned], laidTests := true, laidLooks := .later }
def CodeStacksUptoCardSaid : Prop := Claim7.holds Tryd.pinned (.plain (OpenSpec.upto codeStacksSpec)) codeStacksUptoCard
end Rows
end Go.Proofs.YtkilajobnlagbaaDoor
