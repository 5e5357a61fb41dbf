/-
  NARROWER THAN 'FOR EVERY INPUT', by the rows' own cells (each row's printed sentence says how): MillLogs: laid · LampSigns: laid · LampFroms: laid · LampBytes: laid · LampSound: laid · LampLong: laid · RingKeys: laid · RingRights: laid · RingBytes: laid · RingSigns: laid · RingNil: laid · RingSpends: laid.
  DERIVED. THE GIVEN ROWS OF THIS SEAT. 12 by the template 'for every input the law returns true; each argument reads behind the call as it read before'; 0 by the template 'total and deterministic' (their statements: YtkonokjhpddbfaaDoorTotals.lean).
  GIVEN WITH THE SEED: the statements are not yours to turn. If you find one false, say at which input.
  Laid BY PROGRAM, IN A SANDBOX (cutbox-rows.mjs): the forced cells as the released guide's own fill.sh prints them over the translation dd647b9b0aa2bbff… (all of the seat's roots in one cut). By AI agents, Wed Nov 11 2026. No macro, syntax, notation, axiom, sorry.
-/
import Derived.Test.YtkonokjhpddbfaaDoorChecked
import GoSem.Claim
import GoSem.ClaimJoined
import GoSem.ClaimMapViews
import Derived.JoinedTies
import Derived.KernelRfl
namespace Go.Proofs.YtkonokjhpddbfaaDoor
/- THE CELL 'sum', in the pinned program and in every row, IS THE sha256 OF THE DUMP (.gsa) THAT YtkonokjhpddbfaaDoorProg.lean LOADS. Nothing in Lean hashes anything: it is a label: what it is worth is what the hold of that sum in a sandbox is worth. -/
noncomputable def Tryd.pinned : Pinned := { name := "ytkonokjhpddbfaadoor", sum := "dd647b9b0aa2bbff601d8fb993d3d74f0e5aa6c57ab38cd03ac1343f7d511ca2", checked := Tryd.checked }
namespace Rows
def none {H : Type} : Left H := { results := [], args := [] }

/- WHAT THE LISTED PACKAGE-LEVEL VARIABLES READ AS WHEN THE CALL BEGINS. Each datum BY PROGRAM (the guide's laid-datum.mjs) off the statement by which the dump's own 'gosem.cut.vars' lays the variable. In a bare row this is a premise. The card (YtkonokjhpddbfaaDoorCards.lean) ties it to the program's text. -/
def laid_tollhouse_mill_roundWords {H : Type} : DataW H := .agg [.lit (.int .u32 1116352408), .lit (.int .u32 1899447441), .lit (.int .u32 3049323471), .lit (.int .u32 3921009573), .lit (.int .u32 961987163), .lit (.int .u32 1508970993), .lit (.int .u32 2453635748), .lit (.int .u32 2870763221), .lit (.int .u32 3624381080), .lit (.int .u32 310598401), .lit (.int .u32 607225278), .lit (.int .u32 1426881987), .lit (.int .u32 1925078388), .lit (.int .u32 2162078206), .lit (.int .u32 2614888103), .lit (.int .u32 3248222580), .lit (.int .u32 3835390401), .lit (.int .u32 4022224774), .lit (.int .u32 264347078), .lit (.int .u32 604807628), .lit (.int .u32 770255983), .lit (.int .u32 1249150122), .lit (.int .u32 1555081692), .lit (.int .u32 1996064986), .lit (.int .u32 2554220882), .lit (.int .u32 2821834349), .lit (.int .u32 2952996808), .lit (.int .u32 3210313671), .lit (.int .u32 3336571891), .lit (.int .u32 3584528711), .lit (.int .u32 113926993), .lit (.int .u32 338241895), .lit (.int .u32 666307205), .lit (.int .u32 773529912), .lit (.int .u32 1294757372), .lit (.int .u32 1396182291), .lit (.int .u32 1695183700), .lit (.int .u32 1986661051), .lit (.int .u32 2177026350), .lit (.int .u32 2456956037), .lit (.int .u32 2730485921), .lit (.int .u32 2820302411), .lit (.int .u32 3259730800), .lit (.int .u32 3345764771), .lit (.int .u32 3516065817), .lit (.int .u32 3600352804), .lit (.int .u32 4094571909), .lit (.int .u32 275423344), .lit (.int .u32 430227734), .lit (.int .u32 506948616), .lit (.int .u32 659060556), .lit (.int .u32 883997877), .lit (.int .u32 958139571), .lit (.int .u32 1322822218), .lit (.int .u32 1537002063), .lit (.int .u32 1747873779), .lit (.int .u32 1955562222), .lit (.int .u32 2024104815), .lit (.int .u32 2227730452), .lit (.int .u32 2361852424), .lit (.int .u32 2428436474), .lit (.int .u32 2756734187), .lit (.int .u32 3204031479), .lit (.int .u32 3329325298)]

/-- 'tollhouselaw03.MillLogs': WHATEVER THE INPUT: true; the input reads as it did. -/
def millLogsSpec : ChangeSpec := { name := "millLogs", fn := fun _ => fun
  | [d1, d2] => { results := [.lit (.bool true)], args := [d1, d2] }
  | _ => none }
def millLogsRow : OpenClaim := { program := "ytkonokjhpddbfaadoor", sum := "dd647b9b0aa2bbff601d8fb993d3d74f0e5aa6c57ab38cd03ac1343f7d511ca2", func := "tollhouse/tollhouselaw03.MillLogs", spec := "millLogs", named := ["tollhouse/mill.roundWords"], plainKeys := false, apart := false, laid := [("tollhouse/mill.roundWords", laid_tollhouse_mill_roundWords)] }
def MillLogsSaid : Prop := millLogsRow.holds Tryd.pinned (OpenSpec.ofChange millLogsSpec)

/-- ITS FALSE NEIGHBOUR: 'it returns false'. Refute it at one input. -/
def millLogsWrong : ChangeSpec := { name := "millLogs", fn := fun _ => fun
  | [d1, d2] => { results := [.lit (.bool false)], args := [d1, d2] }
  | _ => none }
def MillLogsWrongFalsely : Prop := millLogsRow.holds Tryd.pinned (OpenSpec.ofChange millLogsWrong)

/-- 'tollhouselaw04.LampSigns': WHATEVER THE INPUT: true; the input reads as it did. -/
def lampSignsSpec : ChangeSpec := { name := "lampSigns", fn := fun _ => fun
  | [d1, d2, d3] => { results := [.lit (.bool true)], args := [d1, d2, d3] }
  | _ => none }
def lampSignsRow : OpenClaim := { program := "ytkonokjhpddbfaadoor", sum := "dd647b9b0aa2bbff601d8fb993d3d74f0e5aa6c57ab38cd03ac1343f7d511ca2", func := "tollhouse/tollhouselaw04.LampSigns", spec := "lampSigns", named := ["tollhouse/mill.roundWords"], plainKeys := false, apart := false, laid := [("tollhouse/mill.roundWords", laid_tollhouse_mill_roundWords)] }
def LampSignsSaid : Prop := lampSignsRow.holds Tryd.pinned (OpenSpec.ofChange lampSignsSpec)

/-- ITS FALSE NEIGHBOUR: 'it returns false'. Refute it at one input. -/
def lampSignsWrong : ChangeSpec := { name := "lampSigns", fn := fun _ => fun
  | [d1, d2, d3] => { results := [.lit (.bool false)], args := [d1, d2, d3] }
  | _ => none }
def LampSignsWrongFalsely : Prop := lampSignsRow.holds Tryd.pinned (OpenSpec.ofChange lampSignsWrong)

/-- 'tollhouselaw04.LampFroms': WHATEVER THE INPUT: true; the input reads as it did. -/
def lampFromsSpec : ChangeSpec := { name := "lampFroms", fn := fun _ => fun
  | [d1, d2] => { results := [.lit (.bool true)], args := [d1, d2] }
  | _ => none }
def lampFromsRow : OpenClaim := { program := "ytkonokjhpddbfaadoor", sum := "dd647b9b0aa2bbff601d8fb993d3d74f0e5aa6c57ab38cd03ac1343f7d511ca2", func := "tollhouse/tollhouselaw04.LampFroms", spec := "lampFroms", named := ["tollhouse/mill.roundWords"], plainKeys := false, apart := false, laid := [("tollhouse/mill.roundWords", laid_tollhouse_mill_roundWords)] }
def LampFromsSaid : Prop := lampFromsRow.holds Tryd.pinned (OpenSpec.ofChange lampFromsSpec)

/-- ITS FALSE NEIGHBOUR: 'it returns false'. Refute it at one input. -/
def lampFromsWrong : ChangeSpec := { name := "lampFroms", fn := fun _ => fun
  | [d1, d2] => { results := [.lit (.bool false)], args := [d1, d2] }
  | _ => none }
def LampFromsWrongFalsely : Prop := lampFromsRow.holds Tryd.pinned (OpenSpec.ofChange lampFromsWrong)

/-- 'tollhouselaw04.LampBytes': WHATEVER THE INPUT: true; the input reads as it did. -/
def lampBytesSpec : ChangeSpec := { name := "lampBytes", fn := fun _ => fun
  | [d1, d2] => { results := [.lit (.bool true)], args := [d1, d2] }
  | _ => none }
def lampBytesRow : OpenClaim := { program := "ytkonokjhpddbfaadoor", sum := "dd647b9b0aa2bbff601d8fb993d3d74f0e5aa6c57ab38cd03ac1343f7d511ca2", func := "tollhouse/tollhouselaw04.LampBytes", spec := "lampBytes", named := ["tollhouse/mill.roundWords"], plainKeys := false, apart := false, laid := [("tollhouse/mill.roundWords", laid_tollhouse_mill_roundWords)] }
def LampBytesSaid : Prop := lampBytesRow.holds Tryd.pinned (OpenSpec.ofChange lampBytesSpec)

/-- ITS FALSE NEIGHBOUR: 'it returns false'. Refute it at one input. -/
def lampBytesWrong : ChangeSpec := { name := "lampBytes", fn := fun _ => fun
  | [d1, d2] => { results := [.lit (.bool false)], args := [d1, d2] }
  | _ => none }
def LampBytesWrongFalsely : Prop := lampBytesRow.holds Tryd.pinned (OpenSpec.ofChange lampBytesWrong)

/-- 'tollhouselaw04.LampSound': WHATEVER THE INPUT: true; the input reads as it did. -/
def lampSoundSpec : ChangeSpec := { name := "lampSound", fn := fun _ => fun
  | [d1, d2, d3, d4, d5, d6] => { results := [.lit (.bool true)], args := [d1, d2, d3, d4, d5, d6] }
  | _ => none }
def lampSoundRow : OpenClaim := { program := "ytkonokjhpddbfaadoor", sum := "dd647b9b0aa2bbff601d8fb993d3d74f0e5aa6c57ab38cd03ac1343f7d511ca2", func := "tollhouse/tollhouselaw04.LampSound", spec := "lampSound", named := ["tollhouse/mill.roundWords"], plainKeys := false, apart := false, laid := [("tollhouse/mill.roundWords", laid_tollhouse_mill_roundWords)] }
def LampSoundSaid : Prop := lampSoundRow.holds Tryd.pinned (OpenSpec.ofChange lampSoundSpec)

/-- ITS FALSE NEIGHBOUR: 'it returns false'. Refute it at one input. -/
def lampSoundWrong : ChangeSpec := { name := "lampSound", fn := fun _ => fun
  | [d1, d2, d3, d4, d5, d6] => { results := [.lit (.bool false)], args := [d1, d2, d3, d4, d5, d6] }
  | _ => none }
def LampSoundWrongFalsely : Prop := lampSoundRow.holds Tryd.pinned (OpenSpec.ofChange lampSoundWrong)

/-- 'tollhouselaw04.LampLong': WHATEVER THE INPUT: true; the input reads as it did. -/
def lampLongSpec : ChangeSpec := { name := "lampLong", fn := fun _ => fun
  | [d1, d2] => { results := [.lit (.bool true)], args := [d1, d2] }
  | _ => none }
def lampLongRow : OpenClaim := { program := "ytkonokjhpddbfaadoor", sum := "dd647b9b0aa2bbff601d8fb993d3d74f0e5aa6c57ab38cd03ac1343f7d511ca2", func := "tollhouse/tollhouselaw04.LampLong", spec := "lampLong", named := ["tollhouse/mill.roundWords"], plainKeys := false, apart := false, laid := [("tollhouse/mill.roundWords", laid_tollhouse_mill_roundWords)] }
def LampLongSaid : Prop := lampLongRow.holds Tryd.pinned (OpenSpec.ofChange lampLongSpec)

/-- ITS FALSE NEIGHBOUR: 'it returns false'. Refute it at one input. -/
def lampLongWrong : ChangeSpec := { name := "lampLong", fn := fun _ => fun
  | [d1, d2] => { results := [.lit (.bool false)], args := [d1, d2] }
  | _ => none }
def LampLongWrongFalsely : Prop := lampLongRow.holds Tryd.pinned (OpenSpec.ofChange lampLongWrong)

/-- 'tollhouselaw05.RingKeys': WHATEVER THE INPUT: true; the input reads as it did. -/
def ringKeysSpec : ChangeSpec := { name := "ringKeys", fn := fun _ => fun
  | [d1, d2, d3, d4, d5] => { results := [.lit (.bool true)], args := [d1, d2, d3, d4, d5] }
  | _ => none }
def ringKeysRow : OpenClaim := { program := "ytkonokjhpddbfaadoor", sum := "dd647b9b0aa2bbff601d8fb993d3d74f0e5aa6c57ab38cd03ac1343f7d511ca2", func := "tollhouse/tollhouselaw05.RingKeys", spec := "ringKeys", named := ["tollhouse/mill.roundWords"], plainKeys := false, apart := false, laid := [("tollhouse/mill.roundWords", laid_tollhouse_mill_roundWords)] }
def RingKeysSaid : Prop := ringKeysRow.holds Tryd.pinned (OpenSpec.ofChange ringKeysSpec)

/-- ITS FALSE NEIGHBOUR: 'it returns false'. Refute it at one input. -/
def ringKeysWrong : ChangeSpec := { name := "ringKeys", fn := fun _ => fun
  | [d1, d2, d3, d4, d5] => { results := [.lit (.bool false)], args := [d1, d2, d3, d4, d5] }
  | _ => none }
def RingKeysWrongFalsely : Prop := ringKeysRow.holds Tryd.pinned (OpenSpec.ofChange ringKeysWrong)

/-- 'tollhouselaw05.RingRights': WHATEVER THE INPUT: true; the input reads as it did. -/
def ringRightsSpec : ChangeSpec := { name := "ringRights", fn := fun _ => fun
  | [d1, d2, d3, d4, d5] => { results := [.lit (.bool true)], args := [d1, d2, d3, d4, d5] }
  | _ => none }
def ringRightsRow : OpenClaim := { program := "ytkonokjhpddbfaadoor", sum := "dd647b9b0aa2bbff601d8fb993d3d74f0e5aa6c57ab38cd03ac1343f7d511ca2", func := "tollhouse/tollhouselaw05.RingRights", spec := "ringRights", named := ["tollhouse/mill.roundWords"], plainKeys := false, apart := false, laid := [("tollhouse/mill.roundWords", laid_tollhouse_mill_roundWords)] }
def RingRightsSaid : Prop := ringRightsRow.holds Tryd.pinned (OpenSpec.ofChange ringRightsSpec)

/-- ITS FALSE NEIGHBOUR: 'it returns false'. Refute it at one input. -/
def ringRightsWrong : ChangeSpec := { name := "ringRights", fn := fun _ => fun
  | [d1, d2, d3, d4, d5] => { results := [.lit (.bool false)], args := [d1, d2, d3, d4, d5] }
  | _ => none }
def RingRightsWrongFalsely : Prop := ringRightsRow.holds Tryd.pinned (OpenSpec.ofChange ringRightsWrong)

/-- 'tollhouselaw05.RingBytes': WHATEVER THE INPUT: true; the input reads as it did. -/
def ringBytesSpec : ChangeSpec := { name := "ringBytes", fn := fun _ => fun
  | [d1, d2] => { results := [.lit (.bool true)], args := [d1, d2] }
  | _ => none }
def ringBytesRow : OpenClaim := { program := "ytkonokjhpddbfaadoor", sum := "dd647b9b0aa2bbff601d8fb993d3d74f0e5aa6c57ab38cd03ac1343f7d511ca2", func := "tollhouse/tollhouselaw05.RingBytes", spec := "ringBytes", named := ["tollhouse/mill.roundWords"], plainKeys := false, apart := false, laid := [("tollhouse/mill.roundWords", laid_tollhouse_mill_roundWords)] }
def RingBytesSaid : Prop := ringBytesRow.holds Tryd.pinned (OpenSpec.ofChange ringBytesSpec)

/-- ITS FALSE NEIGHBOUR: 'it returns false'. Refute it at one input. -/
def ringBytesWrong : ChangeSpec := { name := "ringBytes", fn := fun _ => fun
  | [d1, d2] => { results := [.lit (.bool false)], args := [d1, d2] }
  | _ => none }
def RingBytesWrongFalsely : Prop := ringBytesRow.holds Tryd.pinned (OpenSpec.ofChange ringBytesWrong)

/-- 'tollhouselaw05.RingSigns': WHATEVER THE INPUT: true; the input reads as it did. -/
def ringSignsSpec : ChangeSpec := { name := "ringSigns", fn := fun _ => fun
  | [d1, d2, d3, d4] => { results := [.lit (.bool true)], args := [d1, d2, d3, d4] }
  | _ => none }
def ringSignsRow : OpenClaim := { program := "ytkonokjhpddbfaadoor", sum := "dd647b9b0aa2bbff601d8fb993d3d74f0e5aa6c57ab38cd03ac1343f7d511ca2", func := "tollhouse/tollhouselaw05.RingSigns", spec := "ringSigns", named := ["tollhouse/mill.roundWords"], plainKeys := false, apart := false, laid := [("tollhouse/mill.roundWords", laid_tollhouse_mill_roundWords)] }
def RingSignsSaid : Prop := ringSignsRow.holds Tryd.pinned (OpenSpec.ofChange ringSignsSpec)

/-- ITS FALSE NEIGHBOUR: 'it returns false'. Refute it at one input. -/
def ringSignsWrong : ChangeSpec := { name := "ringSigns", fn := fun _ => fun
  | [d1, d2, d3, d4] => { results := [.lit (.bool false)], args := [d1, d2, d3, d4] }
  | _ => none }
def RingSignsWrongFalsely : Prop := ringSignsRow.holds Tryd.pinned (OpenSpec.ofChange ringSignsWrong)

/-- 'tollhouselaw05.RingNil': WHATEVER THE INPUT: true; the input reads as it did. -/
def ringNilSpec : ChangeSpec := { name := "ringNil", fn := fun _ => fun
  | [d1, d2] => { results := [.lit (.bool true)], args := [d1, d2] }
  | _ => none }
def ringNilRow : OpenClaim := { program := "ytkonokjhpddbfaadoor", sum := "dd647b9b0aa2bbff601d8fb993d3d74f0e5aa6c57ab38cd03ac1343f7d511ca2", func := "tollhouse/tollhouselaw05.RingNil", spec := "ringNil", named := ["tollhouse/mill.roundWords"], plainKeys := false, apart := false, laid := [("tollhouse/mill.roundWords", laid_tollhouse_mill_roundWords)] }
def RingNilSaid : Prop := ringNilRow.holds Tryd.pinned (OpenSpec.ofChange ringNilSpec)

/-- ITS FALSE NEIGHBOUR: 'it returns false'. Refute it at one input. -/
def ringNilWrong : ChangeSpec := { name := "ringNil", fn := fun _ => fun
  | [d1, d2] => { results := [.lit (.bool false)], args := [d1, d2] }
  | _ => none }
def RingNilWrongFalsely : Prop := ringNilRow.holds Tryd.pinned (OpenSpec.ofChange ringNilWrong)

/-- 'tollhouselaw05.RingSpends': WHATEVER THE INPUT: true; the input reads as it did. -/
def ringSpendsSpec : ChangeSpec := { name := "ringSpends", fn := fun _ => fun
  | [d1, d2, d3, d4, d5] => { results := [.lit (.bool true)], args := [d1, d2, d3, d4, d5] }
  | _ => none }
def ringSpendsRow : OpenClaim := { program := "ytkonokjhpddbfaadoor", sum := "dd647b9b0aa2bbff601d8fb993d3d74f0e5aa6c57ab38cd03ac1343f7d511ca2", func := "tollhouse/tollhouselaw05.RingSpends", spec := "ringSpends", named := ["tollhouse/mill.roundWords"], plainKeys := false, apart := false, laid := [("tollhouse/mill.roundWords", laid_tollhouse_mill_roundWords)] }
def RingSpendsSaid : Prop := ringSpendsRow.holds Tryd.pinned (OpenSpec.ofChange ringSpendsSpec)

/-- ITS FALSE NEIGHBOUR: 'it returns false'. Refute it at one input. -/
def ringSpendsWrong : ChangeSpec := { name := "ringSpends", fn := fun _ => fun
  | [d1, d2, d3, d4, d5] => { results := [.lit (.bool false)], args := [d1, d2, d3, d4, d5] }
  | _ => none }
def RingSpendsWrongFalsely : Prop := ringSpendsRow.holds Tryd.pinned (OpenSpec.ofChange ringSpendsWrong)

/- THE SECOND FORM. 'bulk': how many values and letters a reading holds, each counted each time it is reached (what is shared counts as often as it is met; a slice's spare places count too). A statement '..UptoSaid' is the law's where the arguments, and the package variables that the reading takes, are together of bulk at most 1048576: NARROWER than '..Said'. Prove '..Said' where nothing that the law and all that it calls make is longer than what came in: it says more and counts as full. Else prove '..UptoSaid'. A law counts once. -/
mutual
def uptoBulk {H : Type} : DataW H → Nat
  | .lit (.string bytes) => bytes.length + 1
  | .lit _ => 1
  | .nil => 1
  | .ptr d => uptoBulk d + 1
  | .slice elems spare => uptoBulkAll elems + uptoBulkAll spare + 1
  | .agg parts => uptoBulkAll parts + 1
  | .iface _ d => uptoBulk d + 1
  | .map entries => uptoBulkEntries entries + 1
  | .held _ => 1
def uptoBulkAll {H : Type} : List (DataW H) → Nat
  | [] => 0
  | d :: r => uptoBulk d + uptoBulkAll r
def uptoBulkEntries {H : Type} : List (Lit × DataW H) → Nat
  | [] => 0
  | x :: r => uptoBulkEntry x + uptoBulkEntries r
def uptoBulkEntry {H : Type} : Lit × DataW H → Nat
  | (.string bytes, d) => bytes.length + uptoBulk d + 1
  | (_, d) => uptoBulk d + 1
 end
def uptoSmall : (H : Type) → List (DataW H) → Bool := fun _ ds => decide (uptoBulkAll ds ≤ 1048576)
def OpenSpec.upto (s : _root_.Go.ChangeSpec) : _root_.Go.OpenSpec := { _root_.Go.OpenSpec.ofChange s with cond := some uptoSmall }

/-- 'tollhouselaw03.MillLogs', WHERE WHAT IT READS IS OF BULK AT MOST 1048576: true; the input reads as it did. -/
def millLogsUptoRow : OpenClaim := { program := "ytkonokjhpddbfaadoor", sum := "dd647b9b0aa2bbff601d8fb993d3d74f0e5aa6c57ab38cd03ac1343f7d511ca2", func := "tollhouse/tollhouselaw03.MillLogs", spec := "millLogs", named := ["tollhouse/mill.roundWords"], plainKeys := false, apart := false, laid := [("tollhouse/mill.roundWords", laid_tollhouse_mill_roundWords)], narrowed := true }
def MillLogsUptoSaid : Prop := millLogsUptoRow.holds Tryd.pinned (OpenSpec.upto millLogsSpec)

/-- 'tollhouselaw04.LampSigns', WHERE WHAT IT READS IS OF BULK AT MOST 1048576: true; the input reads as it did. -/
def lampSignsUptoRow : OpenClaim := { program := "ytkonokjhpddbfaadoor", sum := "dd647b9b0aa2bbff601d8fb993d3d74f0e5aa6c57ab38cd03ac1343f7d511ca2", func := "tollhouse/tollhouselaw04.LampSigns", spec := "lampSigns", named := ["tollhouse/mill.roundWords"], plainKeys := false, apart := false, laid := [("tollhouse/mill.roundWords", laid_tollhouse_mill_roundWords)], narrowed := true }
def LampSignsUptoSaid : Prop := lampSignsUptoRow.holds Tryd.pinned (OpenSpec.upto lampSignsSpec)

/-- 'tollhouselaw04.LampFroms', WHERE WHAT IT READS IS OF BULK AT MOST 1048576: true; the input reads as it did. -/
def lampFromsUptoRow : OpenClaim := { program := "ytkonokjhpddbfaadoor", sum := "dd647b9b0aa2bbff601d8fb993d3d74f0e5aa6c57ab38cd03ac1343f7d511ca2", func := "tollhouse/tollhouselaw04.LampFroms", spec := "lampFroms", named := ["tollhouse/mill.roundWords"], plainKeys := false, apart := false, laid := [("tollhouse/mill.roundWords", laid_tollhouse_mill_roundWords)], narrowed := true }
def LampFromsUptoSaid : Prop := lampFromsUptoRow.holds Tryd.pinned (OpenSpec.upto lampFromsSpec)

/-- 'tollhouselaw04.LampBytes', WHERE WHAT IT READS IS OF BULK AT MOST 1048576: true; the input reads as it did. -/
def lampBytesUptoRow : OpenClaim := { program := "ytkonokjhpddbfaadoor", sum := "dd647b9b0aa2bbff601d8fb993d3d74f0e5aa6c57ab38cd03ac1343f7d511ca2", func := "tollhouse/tollhouselaw04.LampBytes", spec := "lampBytes", named := ["tollhouse/mill.roundWords"], plainKeys := false, apart := false, laid := [("tollhouse/mill.roundWords", laid_tollhouse_mill_roundWords)], narrowed := true }
def LampBytesUptoSaid : Prop := lampBytesUptoRow.holds Tryd.pinned (OpenSpec.upto lampBytesSpec)

/-- 'tollhouselaw04.LampSound', WHERE WHAT IT READS IS OF BULK AT MOST 1048576: true; the input reads as it did. -/
def lampSoundUptoRow : OpenClaim := { program := "ytkonokjhpddbfaadoor", sum := "dd647b9b0aa2bbff601d8fb993d3d74f0e5aa6c57ab38cd03ac1343f7d511ca2", func := "tollhouse/tollhouselaw04.LampSound", spec := "lampSound", named := ["tollhouse/mill.roundWords"], plainKeys := false, apart := false, laid := [("tollhouse/mill.roundWords", laid_tollhouse_mill_roundWords)], narrowed := true }
def LampSoundUptoSaid : Prop := lampSoundUptoRow.holds Tryd.pinned (OpenSpec.upto lampSoundSpec)

/-- 'tollhouselaw04.LampLong', WHERE WHAT IT READS IS OF BULK AT MOST 1048576: true; the input reads as it did. -/
def lampLongUptoRow : OpenClaim := { program := "ytkonokjhpddbfaadoor", sum := "dd647b9b0aa2bbff601d8fb993d3d74f0e5aa6c57ab38cd03ac1343f7d511ca2", func := "tollhouse/tollhouselaw04.LampLong", spec := "lampLong", named := ["tollhouse/mill.roundWords"], plainKeys := false, apart := false, laid := [("tollhouse/mill.roundWords", laid_tollhouse_mill_roundWords)], narrowed := true }
def LampLongUptoSaid : Prop := lampLongUptoRow.holds Tryd.pinned (OpenSpec.upto lampLongSpec)

/-- 'tollhouselaw05.RingKeys', WHERE WHAT IT READS IS OF BULK AT MOST 1048576: true; the input reads as it did. -/
def ringKeysUptoRow : OpenClaim := { program := "ytkonokjhpddbfaadoor", sum := "dd647b9b0aa2bbff601d8fb993d3d74f0e5aa6c57ab38cd03ac1343f7d511ca2", func := "tollhouse/tollhouselaw05.RingKeys", spec := "ringKeys", named := ["tollhouse/mill.roundWords"], plainKeys := false, apart := false, laid := [("tollhouse/mill.roundWords", laid_tollhouse_mill_roundWords)], narrowed := true }
def RingKeysUptoSaid : Prop := ringKeysUptoRow.holds Tryd.pinned (OpenSpec.upto ringKeysSpec)

/-- 'tollhouselaw05.RingRights', WHERE WHAT IT READS IS OF BULK AT MOST 1048576: true; the input reads as it did. -/
def ringRightsUptoRow : OpenClaim := { program := "ytkonokjhpddbfaadoor", sum := "dd647b9b0aa2bbff601d8fb993d3d74f0e5aa6c57ab38cd03ac1343f7d511ca2", func := "tollhouse/tollhouselaw05.RingRights", spec := "ringRights", named := ["tollhouse/mill.roundWords"], plainKeys := false, apart := false, laid := [("tollhouse/mill.roundWords", laid_tollhouse_mill_roundWords)], narrowed := true }
def RingRightsUptoSaid : Prop := ringRightsUptoRow.holds Tryd.pinned (OpenSpec.upto ringRightsSpec)

/-- 'tollhouselaw05.RingBytes', WHERE WHAT IT READS IS OF BULK AT MOST 1048576: true; the input reads as it did. -/
def ringBytesUptoRow : OpenClaim := { program := "ytkonokjhpddbfaadoor", sum := "dd647b9b0aa2bbff601d8fb993d3d74f0e5aa6c57ab38cd03ac1343f7d511ca2", func := "tollhouse/tollhouselaw05.RingBytes", spec := "ringBytes", named := ["tollhouse/mill.roundWords"], plainKeys := false, apart := false, laid := [("tollhouse/mill.roundWords", laid_tollhouse_mill_roundWords)], narrowed := true }
def RingBytesUptoSaid : Prop := ringBytesUptoRow.holds Tryd.pinned (OpenSpec.upto ringBytesSpec)

/-- 'tollhouselaw05.RingSigns', WHERE WHAT IT READS IS OF BULK AT MOST 1048576: true; the input reads as it did. -/
def ringSignsUptoRow : OpenClaim := { program := "ytkonokjhpddbfaadoor", sum := "dd647b9b0aa2bbff601d8fb993d3d74f0e5aa6c57ab38cd03ac1343f7d511ca2", func := "tollhouse/tollhouselaw05.RingSigns", spec := "ringSigns", named := ["tollhouse/mill.roundWords"], plainKeys := false, apart := false, laid := [("tollhouse/mill.roundWords", laid_tollhouse_mill_roundWords)], narrowed := true }
def RingSignsUptoSaid : Prop := ringSignsUptoRow.holds Tryd.pinned (OpenSpec.upto ringSignsSpec)

/-- 'tollhouselaw05.RingNil', WHERE WHAT IT READS IS OF BULK AT MOST 1048576: true; the input reads as it did. -/
def ringNilUptoRow : OpenClaim := { program := "ytkonokjhpddbfaadoor", sum := "dd647b9b0aa2bbff601d8fb993d3d74f0e5aa6c57ab38cd03ac1343f7d511ca2", func := "tollhouse/tollhouselaw05.RingNil", spec := "ringNil", named := ["tollhouse/mill.roundWords"], plainKeys := false, apart := false, laid := [("tollhouse/mill.roundWords", laid_tollhouse_mill_roundWords)], narrowed := true }
def RingNilUptoSaid : Prop := ringNilUptoRow.holds Tryd.pinned (OpenSpec.upto ringNilSpec)

/-- 'tollhouselaw05.RingSpends', WHERE WHAT IT READS IS OF BULK AT MOST 1048576: true; the input reads as it did. -/
def ringSpendsUptoRow : OpenClaim := { program := "ytkonokjhpddbfaadoor", sum := "dd647b9b0aa2bbff601d8fb993d3d74f0e5aa6c57ab38cd03ac1343f7d511ca2", func := "tollhouse/tollhouselaw05.RingSpends", spec := "ringSpends", named := ["tollhouse/mill.roundWords"], plainKeys := false, apart := false, laid := [("tollhouse/mill.roundWords", laid_tollhouse_mill_roundWords)], narrowed := true }
def RingSpendsUptoSaid : Prop := ringSpendsUptoRow.holds Tryd.pinned (OpenSpec.upto ringSpendsSpec)

end Rows
end Go.Proofs.YtkonokjhpddbfaaDoor
