/-
  NARROWER THAN 'FOR EVERY INPUT', by the rows' own cells (each row's printed sentence says how): ScanReads: laid · ScanParts: laid · ScanVersions: laid · GetReads: laid · ClaimHelped: laid · LookMost: laid · WalkMoves: laid.
  DERIVED. THE GIVEN ROWS OF THIS SEAT. 7 by the template 'for every input the law returns true; each argument reads behind the call as it read before'; 0 by the template 'total and deterministic' (their statements: YtnaahjlpldnjjaaGreatDoorTotals.lean).
  GIVEN WITH THE SEED: the statements are not yours to turn. If you find one false, say at which input.
  Laid BY PROGRAM, IN A SANDBOX (cutbox-rows.mjs): the forced cells as the released guide's own fill.sh prints them over the translation 0b02251b45d12ff5… (all of the seat's roots in one cut). By AI agents, Wed Nov 11 2026. No macro, syntax, notation, axiom, sorry.
-/
import Derived.Test.YtnaahjlpldnjjaaGreatDoorChecked
import GoSem.Claim
import GoSem.ClaimJoined
import GoSem.ClaimMapViews
import Derived.JoinedTies
import Derived.KernelRfl
namespace Go.Proofs.YtnaahjlpldnjjaaGreatDoor
/- THE CELL 'sum', in the pinned program and in every row, IS THE sha256 OF THE DUMP (.gsa) THAT YtnaahjlpldnjjaaGreatDoorProg.lean LOADS. Nothing in Lean hashes anything: it is a label: what it is worth is what the hold of that sum in a sandbox is worth. -/
noncomputable def Tryz.pinned : Pinned := { name := "ytnaahjlpldnjjaagreatdoor", sum := "0b02251b45d12ff5257dac0bb42345ceced50cd95f7f44ab5a91ecb421f12ee1", checked := Tryz.checked }
namespace Rows
def none {H : Type} : Left H := { results := [], args := [] }

/- WHAT THE LISTED PACKAGE-LEVEL VARIABLES READ AS WHEN THE CALL BEGINS. Each datum BY PROGRAM (the guide's laid-datum.mjs) off the statement by which the dump's own 'gosem.cut.vars' lays the variable. In a bare row this is a premise. The card (YtnaahjlpldnjjaaGreatDoorCards.lean) ties it to the program's text. -/
def laid_errors_errorType {H : Type} : DataW H := .iface "internal/reflectlite.rtype" (.agg [.ptr (.lit (.string [101, 114, 114, 111, 114]))])
def laid_armillary_word_bounds {H : Type} : DataW H := .agg [.agg [.lit (.int .i64 0), .lit (.int .i64 1073741824)], .agg [.lit (.int .i64 0), .lit (.int .i64 1073741824)], .agg [.lit (.int .i64 0), .lit (.int .i64 16777212)], .agg [.lit (.int .i64 0), .lit (.int .i64 16777212)], .agg [.lit (.int .i64 0), .lit (.int .i64 1048576)], .agg [.lit (.int .i64 (-1)), .lit (.int .i64 1048576)]]
def laid_armillary_walk_fields {H : Type} : DataW H := .agg [.lit (.int .i64 0), .lit (.int .i64 6), .lit (.int .i64 0), .lit (.int .i64 2), .lit (.int .i64 0)]

/-- 'armillarylaw14.ScanReads': WHATEVER THE INPUT: true; the input reads as it did. -/
def scanReadsSpec : ChangeSpec := { name := "scanReads", fn := fun _ => fun
  | [d1, d2, d3, d4] => { results := [.lit (.bool true)], args := [d1, d2, d3, d4] }
  | _ => none }
def scanReadsRow : OpenClaim := { program := "ytnaahjlpldnjjaagreatdoor", sum := "0b02251b45d12ff5257dac0bb42345ceced50cd95f7f44ab5a91ecb421f12ee1", func := "armillary/armillarylaw14.ScanReads", spec := "scanReads", inPlace := ["internal/reflectlite.ValueOf", "(internal/reflectlite.Value).Type", "(internal/reflectlite.Value).IsNil", "internal/reflectlite.TypeOf", "(internal/reflectlite.Value).Elem", "(internal/reflectlite.Value).Set"], unfollowed := true, recurses := true, named := ["armillary/word.bounds", "errors.errorType", "armillary/walk.fields"], apart := false, laid := [("errors.errorType", laid_errors_errorType), ("armillary/word.bounds", laid_armillary_word_bounds), ("armillary/walk.fields", laid_armillary_walk_fields)] }
def ScanReadsSaid : Prop := scanReadsRow.holds Tryz.pinned (OpenSpec.ofChange scanReadsSpec)

/-- ITS FALSE NEIGHBOUR: 'it returns false'. Refute it at one input. -/
def scanReadsWrong : ChangeSpec := { name := "scanReads", fn := fun _ => fun
  | [d1, d2, d3, d4] => { results := [.lit (.bool false)], args := [d1, d2, d3, d4] }
  | _ => none }
def ScanReadsWrongFalsely : Prop := scanReadsRow.holds Tryz.pinned (OpenSpec.ofChange scanReadsWrong)

/-- 'armillarylaw14.ScanParts': WHATEVER THE INPUT: true; the input reads as it did. -/
def scanPartsSpec : ChangeSpec := { name := "scanParts", fn := fun _ => fun
  | [d1, d2, d3, d4] => { results := [.lit (.bool true)], args := [d1, d2, d3, d4] }
  | _ => none }
def scanPartsRow : OpenClaim := { program := "ytnaahjlpldnjjaagreatdoor", sum := "0b02251b45d12ff5257dac0bb42345ceced50cd95f7f44ab5a91ecb421f12ee1", func := "armillary/armillarylaw14.ScanParts", spec := "scanParts", inPlace := ["internal/reflectlite.ValueOf", "(internal/reflectlite.Value).Type", "(internal/reflectlite.Value).IsNil", "internal/reflectlite.TypeOf", "(internal/reflectlite.Value).Elem", "(internal/reflectlite.Value).Set"], unfollowed := true, recurses := true, named := ["armillary/word.bounds", "errors.errorType", "armillary/walk.fields"], apart := false, laid := [("errors.errorType", laid_errors_errorType), ("armillary/word.bounds", laid_armillary_word_bounds), ("armillary/walk.fields", laid_armillary_walk_fields)] }
def ScanPartsSaid : Prop := scanPartsRow.holds Tryz.pinned (OpenSpec.ofChange scanPartsSpec)

/-- ITS FALSE NEIGHBOUR: 'it returns false'. Refute it at one input. -/
def scanPartsWrong : ChangeSpec := { name := "scanParts", fn := fun _ => fun
  | [d1, d2, d3, d4] => { results := [.lit (.bool false)], args := [d1, d2, d3, d4] }
  | _ => none }
def ScanPartsWrongFalsely : Prop := scanPartsRow.holds Tryz.pinned (OpenSpec.ofChange scanPartsWrong)

/-- 'armillarylaw14.ScanVersions': WHATEVER THE INPUT: true; the input reads as it did. -/
def scanVersionsSpec : ChangeSpec := { name := "scanVersions", fn := fun _ => fun
  | [d1, d2] => { results := [.lit (.bool true)], args := [d1, d2] }
  | _ => none }
def scanVersionsRow : OpenClaim := { program := "ytnaahjlpldnjjaagreatdoor", sum := "0b02251b45d12ff5257dac0bb42345ceced50cd95f7f44ab5a91ecb421f12ee1", func := "armillary/armillarylaw14.ScanVersions", spec := "scanVersions", inPlace := ["internal/reflectlite.ValueOf", "(internal/reflectlite.Value).Type", "(internal/reflectlite.Value).IsNil", "internal/reflectlite.TypeOf", "(internal/reflectlite.Value).Elem", "(internal/reflectlite.Value).Set"], unfollowed := true, recurses := true, named := ["armillary/word.bounds", "errors.errorType", "armillary/walk.fields"], apart := false, laid := [("errors.errorType", laid_errors_errorType), ("armillary/word.bounds", laid_armillary_word_bounds), ("armillary/walk.fields", laid_armillary_walk_fields)] }
def ScanVersionsSaid : Prop := scanVersionsRow.holds Tryz.pinned (OpenSpec.ofChange scanVersionsSpec)

/-- ITS FALSE NEIGHBOUR: 'it returns false'. Refute it at one input. -/
def scanVersionsWrong : ChangeSpec := { name := "scanVersions", fn := fun _ => fun
  | [d1, d2] => { results := [.lit (.bool false)], args := [d1, d2] }
  | _ => none }
def ScanVersionsWrongFalsely : Prop := scanVersionsRow.holds Tryz.pinned (OpenSpec.ofChange scanVersionsWrong)

/-- 'armillarylaw12.GetReads': WHATEVER THE INPUT: true; the input reads as it did. -/
def getReadsSpec : ChangeSpec := { name := "getReads", fn := fun _ => fun
  | [d1, d2] => { results := [.lit (.bool true)], args := [d1, d2] }
  | _ => none }
def getReadsRow : OpenClaim := { program := "ytnaahjlpldnjjaagreatdoor", sum := "0b02251b45d12ff5257dac0bb42345ceced50cd95f7f44ab5a91ecb421f12ee1", func := "armillary/armillarylaw12.GetReads", spec := "getReads", unfollowed := true, recurses := true, named := ["armillary/walk.fields", "armillary/word.bounds"], apart := false, laid := [("armillary/word.bounds", laid_armillary_word_bounds), ("armillary/walk.fields", laid_armillary_walk_fields)] }
def GetReadsSaid : Prop := getReadsRow.holds Tryz.pinned (OpenSpec.ofChange getReadsSpec)

/-- ITS FALSE NEIGHBOUR: 'it returns false'. Refute it at one input. -/
def getReadsWrong : ChangeSpec := { name := "getReads", fn := fun _ => fun
  | [d1, d2] => { results := [.lit (.bool false)], args := [d1, d2] }
  | _ => none }
def GetReadsWrongFalsely : Prop := getReadsRow.holds Tryz.pinned (OpenSpec.ofChange getReadsWrong)

/-- 'armillarylaw13.ClaimHelped': WHATEVER THE INPUT: true; the input reads as it did. -/
def claimHelpedSpec : ChangeSpec := { name := "claimHelped", fn := fun _ => fun
  | [d1, d2, d3] => { results := [.lit (.bool true)], args := [d1, d2, d3] }
  | _ => none }
def claimHelpedRow : OpenClaim := { program := "ytnaahjlpldnjjaagreatdoor", sum := "0b02251b45d12ff5257dac0bb42345ceced50cd95f7f44ab5a91ecb421f12ee1", func := "armillary/armillarylaw13.ClaimHelped", spec := "claimHelped", inPlace := ["internal/reflectlite.TypeOf"], unfollowed := true, recurses := true, named := ["armillary/word.bounds"], apart := false, laid := [("armillary/word.bounds", laid_armillary_word_bounds)] }
def ClaimHelpedSaid : Prop := claimHelpedRow.holds Tryz.pinned (OpenSpec.ofChange claimHelpedSpec)

/-- ITS FALSE NEIGHBOUR: 'it returns false'. Refute it at one input. -/
def claimHelpedWrong : ChangeSpec := { name := "claimHelped", fn := fun _ => fun
  | [d1, d2, d3] => { results := [.lit (.bool false)], args := [d1, d2, d3] }
  | _ => none }
def ClaimHelpedWrongFalsely : Prop := claimHelpedRow.holds Tryz.pinned (OpenSpec.ofChange claimHelpedWrong)

/-- 'armillarylaw11.LookMost': WHATEVER THE INPUT: true; the input reads as it did. -/
def lookMostSpec : ChangeSpec := { name := "lookMost", fn := fun _ => fun
  | [d1, d2, d3, d4, d5] => { results := [.lit (.bool true)], args := [d1, d2, d3, d4, d5] }
  | _ => none }
def lookMostRow : OpenClaim := { program := "ytnaahjlpldnjjaagreatdoor", sum := "0b02251b45d12ff5257dac0bb42345ceced50cd95f7f44ab5a91ecb421f12ee1", func := "armillary/armillarylaw11.LookMost", spec := "lookMost", unfollowed := true, recurses := true, named := ["armillary/word.bounds"], apart := false, laid := [("armillary/word.bounds", laid_armillary_word_bounds)] }
def LookMostSaid : Prop := lookMostRow.holds Tryz.pinned (OpenSpec.ofChange lookMostSpec)

/-- ITS FALSE NEIGHBOUR: 'it returns false'. Refute it at one input. -/
def lookMostWrong : ChangeSpec := { name := "lookMost", fn := fun _ => fun
  | [d1, d2, d3, d4, d5] => { results := [.lit (.bool false)], args := [d1, d2, d3, d4, d5] }
  | _ => none }
def LookMostWrongFalsely : Prop := lookMostRow.holds Tryz.pinned (OpenSpec.ofChange lookMostWrong)

/-- 'armillarylaw10.WalkMoves': WHATEVER THE INPUT: true; the input reads as it did. -/
def walkMovesSpec : ChangeSpec := { name := "walkMoves", fn := fun _ => fun
  | [d1, d2, d3] => { results := [.lit (.bool true)], args := [d1, d2, d3] }
  | _ => none }
def walkMovesRow : OpenClaim := { program := "ytnaahjlpldnjjaagreatdoor", sum := "0b02251b45d12ff5257dac0bb42345ceced50cd95f7f44ab5a91ecb421f12ee1", func := "armillary/armillarylaw10.WalkMoves", spec := "walkMoves", named := ["armillary/walk.fields"], apart := false, laid := [("armillary/walk.fields", laid_armillary_walk_fields)] }
def WalkMovesSaid : Prop := walkMovesRow.holds Tryz.pinned (OpenSpec.ofChange walkMovesSpec)

/-- ITS FALSE NEIGHBOUR: 'it returns false'. Refute it at one input. -/
def walkMovesWrong : ChangeSpec := { name := "walkMoves", fn := fun _ => fun
  | [d1, d2, d3] => { results := [.lit (.bool false)], args := [d1, d2, d3] }
  | _ => none }
def WalkMovesWrongFalsely : Prop := walkMovesRow.holds Tryz.pinned (OpenSpec.ofChange walkMovesWrong)

/- THE SECOND FORM. 'bulk': how many values and letters a reading holds, each counted each time it is reached (what is shared counts as often as it is met; a slice's spare places count too). A statement '..UptoSaid' is the law's where the arguments, and the package variables that the reading takes, are together of bulk at most 1048576: NARROWER than '..Said'. Prove '..Said' where nothing that the law and all that it calls make is longer than what came in: it says more and counts as full. Else prove '..UptoSaid'. A law counts once. -/
mutual
def uptoBulk {H : Type} : DataW H → Nat
  | .lit (.string bytes) => bytes.length + 1
  | .lit _ => 1
  | .nil => 1
  | .ptr d => uptoBulk d + 1
  | .slice elems spare => uptoBulkAll elems + uptoBulkAll spare + 1
  | .agg parts => uptoBulkAll parts + 1
  | .iface _ d => uptoBulk d + 1
  | .map entries => uptoBulkEntries entries + 1
  | .held _ => 1
def uptoBulkAll {H : Type} : List (DataW H) → Nat
  | [] => 0
  | d :: r => uptoBulk d + uptoBulkAll r
def uptoBulkEntries {H : Type} : List (Lit × DataW H) → Nat
  | [] => 0
  | x :: r => uptoBulkEntry x + uptoBulkEntries r
def uptoBulkEntry {H : Type} : Lit × DataW H → Nat
  | (.string bytes, d) => bytes.length + uptoBulk d + 1
  | (_, d) => uptoBulk d + 1
 end
def uptoSmall : (H : Type) → List (DataW H) → Bool := fun _ ds => decide (uptoBulkAll ds ≤ 1048576)
def OpenSpec.upto (s : _root_.Go.ChangeSpec) : _root_.Go.OpenSpec := { _root_.Go.OpenSpec.ofChange s with cond := some uptoSmall }

/-- 'armillarylaw14.ScanReads', WHERE WHAT IT READS IS OF BULK AT MOST 1048576: true; the input reads as it did. -/
def scanReadsUptoRow : OpenClaim := { program := "ytnaahjlpldnjjaagreatdoor", sum := "0b02251b45d12ff5257dac0bb42345ceced50cd95f7f44ab5a91ecb421f12ee1", func := "armillary/armillarylaw14.ScanReads", spec := "scanReads", inPlace := ["internal/reflectlite.ValueOf", "(internal/reflectlite.Value).Type", "(internal/reflectlite.Value).IsNil", "internal/reflectlite.TypeOf", "(internal/reflectlite.Value).Elem", "(internal/reflectlite.Value).Set"], unfollowed := true, recurses := true, named := ["armillary/word.bounds", "errors.errorType", "armillary/walk.fields"], apart := false, laid := [("errors.errorType", laid_errors_errorType), ("armillary/word.bounds", laid_armillary_word_bounds), ("armillary/walk.fields", laid_armillary_walk_fields)], narrowed := true }
def ScanReadsUptoSaid : Prop := scanReadsUptoRow.holds Tryz.pinned (OpenSpec.upto scanReadsSpec)

/-- 'armillarylaw14.ScanParts', WHERE WHAT IT READS IS OF BULK AT MOST 1048576: true; the input reads as it did. -/
def scanPartsUptoRow : OpenClaim := { program := "ytnaahjlpldnjjaagreatdoor", sum := "0b02251b45d12ff5257dac0bb42345ceced50cd95f7f44ab5a91ecb421f12ee1", func := "armillary/armillarylaw14.ScanParts", spec := "scanParts", inPlace := ["internal/reflectlite.ValueOf", "(internal/reflectlite.Value).Type", "(internal/reflectlite.Value).IsNil", "internal/reflectlite.TypeOf", "(internal/reflectlite.Value).Elem", "(internal/reflectlite.Value).Set"], unfollowed := true, recurses := true, named := ["armillary/word.bounds", "errors.errorType", "armillary/walk.fields"], apart := false, laid := [("errors.errorType", laid_errors_errorType), ("armillary/word.bounds", laid_armillary_word_bounds), ("armillary/walk.fields", laid_armillary_walk_fields)], narrowed := true }
def ScanPartsUptoSaid : Prop := scanPartsUptoRow.holds Tryz.pinned (OpenSpec.upto scanPartsSpec)

/-- 'armillarylaw14.ScanVersions', WHERE WHAT IT READS IS OF BULK AT MOST 1048576: true; the input reads as it did. -/
def scanVersionsUptoRow : OpenClaim := { program := "ytnaahjlpldnjjaagreatdoor", sum := "0b02251b45d12ff5257dac0bb42345ceced50cd95f7f44ab5a91ecb421f12ee1", func := "armillary/armillarylaw14.ScanVersions", spec := "scanVersions", inPlace := ["internal/reflectlite.ValueOf", "(internal/reflectlite.Value).Type", "(internal/reflectlite.Value).IsNil", "internal/reflectlite.TypeOf", "(internal/reflectlite.Value).Elem", "(internal/reflectlite.Value).Set"], unfollowed := true, recurses := true, named := ["armillary/word.bounds", "errors.errorType", "armillary/walk.fields"], apart := false, laid := [("errors.errorType", laid_errors_errorType), ("armillary/word.bounds", laid_armillary_word_bounds), ("armillary/walk.fields", laid_armillary_walk_fields)], narrowed := true }
def ScanVersionsUptoSaid : Prop := scanVersionsUptoRow.holds Tryz.pinned (OpenSpec.upto scanVersionsSpec)

/-- 'armillarylaw12.GetReads', WHERE WHAT IT READS IS OF BULK AT MOST 1048576: true; the input reads as it did. -/
def getReadsUptoRow : OpenClaim := { program := "ytnaahjlpldnjjaagreatdoor", sum := "0b02251b45d12ff5257dac0bb42345ceced50cd95f7f44ab5a91ecb421f12ee1", func := "armillary/armillarylaw12.GetReads", spec := "getReads", unfollowed := true, recurses := true, named := ["armillary/walk.fields", "armillary/word.bounds"], apart := false, laid := [("armillary/word.bounds", laid_armillary_word_bounds), ("armillary/walk.fields", laid_armillary_walk_fields)], narrowed := true }
def GetReadsUptoSaid : Prop := getReadsUptoRow.holds Tryz.pinned (OpenSpec.upto getReadsSpec)

/-- 'armillarylaw13.ClaimHelped', WHERE WHAT IT READS IS OF BULK AT MOST 1048576: true; the input reads as it did. -/
def claimHelpedUptoRow : OpenClaim := { program := "ytnaahjlpldnjjaagreatdoor", sum := "0b02251b45d12ff5257dac0bb42345ceced50cd95f7f44ab5a91ecb421f12ee1", func := "armillary/armillarylaw13.ClaimHelped", spec := "claimHelped", inPlace := ["internal/reflectlite.TypeOf"], unfollowed := true, recurses := true, named := ["armillary/word.bounds"], apart := false, laid := [("armillary/word.bounds", laid_armillary_word_bounds)], narrowed := true }
def ClaimHelpedUptoSaid : Prop := claimHelpedUptoRow.holds Tryz.pinned (OpenSpec.upto claimHelpedSpec)

/-- 'armillarylaw11.LookMost', WHERE WHAT IT READS IS OF BULK AT MOST 1048576: true; the input reads as it did. -/
def lookMostUptoRow : OpenClaim := { program := "ytnaahjlpldnjjaagreatdoor", sum := "0b02251b45d12ff5257dac0bb42345ceced50cd95f7f44ab5a91ecb421f12ee1", func := "armillary/armillarylaw11.LookMost", spec := "lookMost", unfollowed := true, recurses := true, named := ["armillary/word.bounds"], apart := false, laid := [("armillary/word.bounds", laid_armillary_word_bounds)], narrowed := true }
def LookMostUptoSaid : Prop := lookMostUptoRow.holds Tryz.pinned (OpenSpec.upto lookMostSpec)

/-- 'armillarylaw10.WalkMoves', WHERE WHAT IT READS IS OF BULK AT MOST 1048576: true; the input reads as it did. -/
def walkMovesUptoRow : OpenClaim := { program := "ytnaahjlpldnjjaagreatdoor", sum := "0b02251b45d12ff5257dac0bb42345ceced50cd95f7f44ab5a91ecb421f12ee1", func := "armillary/armillarylaw10.WalkMoves", spec := "walkMoves", named := ["armillary/walk.fields"], apart := false, laid := [("armillary/walk.fields", laid_armillary_walk_fields)], narrowed := true }
def WalkMovesUptoSaid : Prop := walkMovesUptoRow.holds Tryz.pinned (OpenSpec.upto walkMovesSpec)

end Rows
end Go.Proofs.YtnaahjlpldnjjaaGreatDoor
