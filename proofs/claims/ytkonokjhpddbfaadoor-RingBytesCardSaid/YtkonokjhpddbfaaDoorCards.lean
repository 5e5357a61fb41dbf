/-
  DERIVED. GIVEN WITH THE SEED: THE CARDS: each row of YtkonokjhpddbfaaDoorRows.lean that lists a variable, with what it lists TIED to the program's text (the seventh form; the later family's looks); each row that meets fmt, with fmt's text TOLD by the authors' own Lean function (tested against real Go, not proved from fmt's source: count such statements apart). THE CARD IS WHAT COUNTS. Prove the row's statement (the work); the ties are given (YtkonokjhpddbfaaDoorTie.lean); close each card by the builder's one call (the guide's Derived/Test/ToyasCard.lean, 'card_holds'). Laid BY PROGRAM, IN A SANDBOX (cutbox-door.mjs). By AI agents, Wed Nov 11 2026. No macro, syntax, notation, axiom, sorry.
-/
import Derived.Test.YtkonokjhpddbfaaDoorRows
import GoSem.ClaimSeven
namespace Go.Proofs.YtkonokjhpddbfaaDoor
namespace Rows

/-- THE TIED CARD OF 'tollhouselaw03.MillLogs'. -/
def millLogsCard : Claim7 := { stood := { row := millLogsRow, standIns := [], harness := (true, "a72d9714d80f70afd09ef1e6188debe919516ed096fab81e0fd25ff858785cf6"), looks := false }, kinds := [], alts := [], laidByText := true, laidKinds := [.data], laidTests := true, laidLooks := .later }
def MillLogsCardSaid : Prop := Claim7.holds Tryd.pinned (.plain (OpenSpec.ofChange millLogsSpec)) millLogsCard

/-- THE TIED CARD OF 'tollhouselaw04.LampSigns'. -/
def lampSignsCard : Claim7 := { stood := { row := lampSignsRow, standIns := [], harness := (true, "a72d9714d80f70afd09ef1e6188debe919516ed096fab81e0fd25ff858785cf6"), looks := false }, kinds := [], alts := [], laidByText := true, laidKinds := [.data], laidTests := true, laidLooks := .later }
def LampSignsCardSaid : Prop := Claim7.holds Tryd.pinned (.plain (OpenSpec.ofChange lampSignsSpec)) lampSignsCard

/-- THE TIED CARD OF 'tollhouselaw04.LampFroms'. -/
def lampFromsCard : Claim7 := { stood := { row := lampFromsRow, standIns := [], harness := (true, "a72d9714d80f70afd09ef1e6188debe919516ed096fab81e0fd25ff858785cf6"), looks := false }, kinds := [], alts := [], laidByText := true, laidKinds := [.data], laidTests := true, laidLooks := .later }
def LampFromsCardSaid : Prop := Claim7.holds Tryd.pinned (.plain (OpenSpec.ofChange lampFromsSpec)) lampFromsCard

/-- THE TIED CARD OF 'tollhouselaw04.LampBytes'. -/
def lampBytesCard : Claim7 := { stood := { row := lampBytesRow, standIns := [], harness := (true, "a72d9714d80f70afd09ef1e6188debe919516ed096fab81e0fd25ff858785cf6"), looks := false }, kinds := [], alts := [], laidByText := true, laidKinds := [.data], laidTests := true, laidLooks := .later }
def LampBytesCardSaid : Prop := Claim7.holds Tryd.pinned (.plain (OpenSpec.ofChange lampBytesSpec)) lampBytesCard

/-- THE TIED CARD OF 'tollhouselaw04.LampSound'. -/
def lampSoundCard : Claim7 := { stood := { row := lampSoundRow, standIns := [], harness := (true, "a72d9714d80f70afd09ef1e6188debe919516ed096fab81e0fd25ff858785cf6"), looks := false }, kinds := [], alts := [], laidByText := true, laidKinds := [.data], laidTests := true, laidLooks := .later }
def LampSoundCardSaid : Prop := Claim7.holds Tryd.pinned (.plain (OpenSpec.ofChange lampSoundSpec)) lampSoundCard

/-- THE TIED CARD OF 'tollhouselaw04.LampLong'. -/
def lampLongCard : Claim7 := { stood := { row := lampLongRow, standIns := [], harness := (true, "a72d9714d80f70afd09ef1e6188debe919516ed096fab81e0fd25ff858785cf6"), looks := false }, kinds := [], alts := [], laidByText := true, laidKinds := [.data], laidTests := true, laidLooks := .later }
def LampLongCardSaid : Prop := Claim7.holds Tryd.pinned (.plain (OpenSpec.ofChange lampLongSpec)) lampLongCard

/-- THE TIED CARD OF 'tollhouselaw05.RingKeys'. -/
def ringKeysCard : Claim7 := { stood := { row := ringKeysRow, standIns := [], harness := (true, "a72d9714d80f70afd09ef1e6188debe919516ed096fab81e0fd25ff858785cf6"), looks := false }, kinds := [], alts := [], laidByText := true, laidKinds := [.data], laidTests := true, laidLooks := .later }
def RingKeysCardSaid : Prop := Claim7.holds Tryd.pinned (.plain (OpenSpec.ofChange ringKeysSpec)) ringKeysCard

/-- THE TIED CARD OF 'tollhouselaw05.RingRights'. -/
def ringRightsCard : Claim7 := { stood := { row := ringRightsRow, standIns := [], harness := (true, "a72d9714d80f70afd09ef1e6188debe919516ed096fab81e0fd25ff858785cf6"), looks := false }, kinds := [], alts := [], laidByText := true, laidKinds := [.data], laidTests := true, laidLooks := .later }
def RingRightsCardSaid : Prop := Claim7.holds Tryd.pinned (.plain (OpenSpec.ofChange ringRightsSpec)) ringRightsCard

/-- THE TIED CARD OF 'tollhouselaw05.RingBytes'. -/
def ringBytesCard : Claim7 := { stood := { row := ringBytesRow, standIns := [], harness := (true, "a72d9714d80f70afd09ef1e6188debe919516ed096fab81e0fd25ff858785cf6"), looks := false }, kinds := [], alts := [], laidByText := true, laidKinds := [.data], laidTests := true, laidLooks := .later }
def RingBytesCardSaid : Prop := Claim7.holds Tryd.pinned (.plain (OpenSpec.ofChange ringBytesSpec)) ringBytesCard

/-- THE TIED CARD OF 'tollhouselaw05.RingSigns'. -/
def ringSignsCard : Claim7 := { stood := { row := ringSignsRow, standIns := [], harness := (true, "a72d9714d80f70afd09ef1e6188debe919516ed096fab81e0fd25ff858785cf6"), looks := false }, kinds := [], alts := [], laidByText := true, laidKinds := [.data], laidTests := true, laidLooks := .later }
def RingSignsCardSaid : Prop := Claim7.holds Tryd.pinned (.plain (OpenSpec.ofChange ringSignsSpec)) ringSignsCard

/-- THE TIED CARD OF 'tollhouselaw05.RingNil'. -/
def ringNilCard : Claim7 := { stood := { row := ringNilRow, standIns := [], harness := (true, "a72d9714d80f70afd09ef1e6188debe919516ed096fab81e0fd25ff858785cf6"), looks := false }, kinds := [], alts := [], laidByText := true, laidKinds := [.data], laidTests := true, laidLooks := .later }
def RingNilCardSaid : Prop := Claim7.holds Tryd.pinned (.plain (OpenSpec.ofChange ringNilSpec)) ringNilCard

/-- THE TIED CARD OF 'tollhouselaw05.RingSpends'. -/
def ringSpendsCard : Claim7 := { stood := { row := ringSpendsRow, standIns := [], harness := (true, "a72d9714d80f70afd09ef1e6188debe919516ed096fab81e0fd25ff858785cf6"), looks := false }, kinds := [], alts := [], laidByText := true, laidKinds := [.data], laidTests := true, laidLooks := .later }
def RingSpendsCardSaid : Prop := Claim7.holds Tryd.pinned (.plain (OpenSpec.ofChange ringSpendsSpec)) ringSpendsCard

/-- THE SECOND FORM's CARD OF 'tollhouselaw03.MillLogs'. -/
def millLogsUptoCard : Claim7 := { stood := { row := millLogsUptoRow, standIns := [], harness := (true, "a72d9714d80f70afd09ef1e6188debe919516ed096fab81e0fd25ff858785cf6"), looks := false }, kinds := [], alts := [], laidByText := true, laidKinds := [.data], laidTests := true, laidLooks := .later }
def MillLogsUptoCardSaid : Prop := Claim7.holds Tryd.pinned (.plain (OpenSpec.upto millLogsSpec)) millLogsUptoCard

/-- THE SECOND FORM's CARD OF 'tollhouselaw04.LampSigns'. -/
def lampSignsUptoCard : Claim7 := { stood := { row := lampSignsUptoRow, standIns := [], harness := (true, "a72d9714d80f70afd09ef1e6188debe919516ed096fab81e0fd25ff858785cf6"), looks := false }, kinds := [], alts := [], laidByText := true, laidKinds := [.data], laidTests := true, laidLooks := .later }
def LampSignsUptoCardSaid : Prop := Claim7.holds Tryd.pinned (.plain (OpenSpec.upto lampSignsSpec)) lampSignsUptoCard

/-- THE SECOND FORM's CARD OF 'tollhouselaw04.LampFroms'. -/
def lampFromsUptoCard : Claim7 := { stood := { row := lampFromsUptoRow, standIns := [], harness := (true, "a72d9714d80f70afd09ef1e6188debe919516ed096fab81e0fd25ff858785cf6"), looks := false }, kinds := [], alts := [], laidByText := true, laidKinds := [.data], laidTests := true, laidLooks := .later }
def LampFromsUptoCardSaid : Prop := Claim7.holds Tryd.pinned (.plain (OpenSpec.upto lampFromsSpec)) lampFromsUptoCard

/-- THE SECOND FORM's CARD OF 'tollhouselaw04.LampBytes'. -/
def lampBytesUptoCard : Claim7 := { stood := { row := lampBytesUptoRow, standIns := [], harness := (true, "a72d9714d80f70afd09ef1e6188debe919516ed096fab81e0fd25ff858785cf6"), looks := false }, kinds := [], alts := [], laidByText := true, laidKinds := [.data], laidTests := true, laidLooks := .later }
def LampBytesUptoCardSaid : Prop := Claim7.holds Tryd.pinned (.plain (OpenSpec.upto lampBytesSpec)) lampBytesUptoCard

/-- THE SECOND FORM's CARD OF 'tollhouselaw04.LampSound'. -/
def lampSoundUptoCard : Claim7 := { stood := { row := lampSoundUptoRow, standIns := [], harness := (true, "a72d9714d80f70afd09ef1e6188debe919516ed096fab81e0fd25ff858785cf6"), looks := false }, kinds := [], alts := [], laidByText := true, laidKinds := [.data], laidTests := true, laidLooks := .later }
def LampSoundUptoCardSaid : Prop := Claim7.holds Tryd.pinned (.plain (OpenSpec.upto lampSoundSpec)) lampSoundUptoCard

/-- THE SECOND FORM's CARD OF 'tollhouselaw04.LampLong'. -/
def lampLongUptoCard : Claim7 := { stood := { row := lampLongUptoRow, standIns := [], harness := (true, "a72d9714d80f70afd09ef1e6188debe919516ed096fab81e0fd25ff858785cf6"), looks := false }, kinds := [], alts := [], laidByText := true, laidKinds := [.data], laidTests := true, laidLooks := .later }
def LampLongUptoCardSaid : Prop := Claim7.holds Tryd.pinned (.plain (OpenSpec.upto lampLongSpec)) lampLongUptoCard

/-- THE SECOND FORM's CARD OF 'tollhouselaw05.RingKeys'. -/
def ringKeysUptoCard : Claim7 := { stood := { row := ringKeysUptoRow, standIns := [], harness := (true, "a72d9714d80f70afd09ef1e6188debe919516ed096fab81e0fd25ff858785cf6"), looks := false }, kinds := [], alts := [], laidByText := true, laidKinds := [.data], laidTests := true, laidLooks := .later }
def RingKeysUptoCardSaid : Prop := Claim7.holds Tryd.pinned (.plain (OpenSpec.upto ringKeysSpec)) ringKeysUptoCard

/-- THE SECOND FORM's CARD OF 'tollhouselaw05.RingRights'. -/
def ringRightsUptoCard : Claim7 := { stood := { row := ringRightsUptoRow, standIns := [], harness := (true, "a72d9714d80f70afd09ef1e6188debe919516ed096fab81e0fd25ff858785cf6"), looks := false }, kinds := [], alts := [], laidByText := true, laidKinds := [.data], laidTests := true, laidLooks := .later }
def RingRightsUptoCardSaid : Prop := Claim7.holds Tryd.pinned (.plain (OpenSpec.upto ringRightsSpec)) ringRightsUptoCard

/-- THE SECOND FORM's CARD OF 'tollhouselaw05.RingBytes'. -/
def ringBytesUptoCard : Claim7 := { stood := { row := ringBytesUptoRow, standIns := [], harness := (true, "a72d9714d80f70afd09ef1e6188debe919516ed096fab81e0fd25ff858785cf6"), looks := false }, kinds := [], alts := [], laidByText := true, laidKinds := [.data], laidTests := true, laidLooks := .later }
def RingBytesUptoCardSaid : Prop := Claim7.holds Tryd.pinned (.plain (OpenSpec.upto ringBytesSpec)) ringBytesUptoCard

/-- THE SECOND FORM's CARD OF 'tollhouselaw05.RingSigns'. -/
def ringSignsUptoCard : Claim7 := { stood := { row := ringSignsUptoRow, standIns := [], harness := (true, "a72d9714d80f70afd09ef1e6188debe919516ed096fab81e0fd25ff858785cf6"), looks := false }, kinds := [], alts := [], laidByText := true, laidKinds := [.data], laidTests := true, laidLooks := .later }
def RingSignsUptoCardSaid : Prop := Claim7.holds Tryd.pinned (.plain (OpenSpec.upto ringSignsSpec)) ringSignsUptoCard

/-- THE SECOND FORM's CARD OF 'tollhouselaw05.RingNil'. -/
def ringNilUptoCard : Claim7 := { stood := { row := ringNilUptoRow, standIns := [], harness := (true, "a72d9714d80f70afd09ef1e6188debe919516ed096fab81e0fd25ff858785cf6"), looks := false }, kinds := [], alts := [], laidByText := true, laidKinds := [.data], laidTests := true, laidLooks := .later }
def RingNilUptoCardSaid : Prop := Claim7.holds Tryd.pinned (.plain (OpenSpec.upto ringNilSpec)) ringNilUptoCard

/-- THE SECOND FORM's CARD OF 'tollhouselaw05.RingSpends'. -/
def ringSpendsUptoCard : Claim7 := { stood := { row := ringSpendsUptoRow, standIns := [], harness := (true, "a72d9714d80f70afd09ef1e6188debe919516ed096fab81e0fd25ff858785cf6"), looks := false }, kinds := [], alts := [], laidByText := true, laidKinds := [.data], laidTests := true, laidLooks := .later }
def RingSpendsUptoCardSaid : Prop := Claim7.holds Tryd.pinned (.plain (OpenSpec.upto ringSpendsSpec)) ringSpendsUptoCard
end Rows
end Go.Proofs.YtkonokjhpddbfaaDoor
