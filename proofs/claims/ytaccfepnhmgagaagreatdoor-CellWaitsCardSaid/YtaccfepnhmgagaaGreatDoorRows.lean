/-
  NARROWER THAN 'FOR EVERY INPUT', by the rows' own cells (each row's printed sentence says how): CellTells: laid · CellWaits: laid · LookMost: laid · WalkMoves: laid.
  DERIVED. THE GIVEN ROWS OF THIS SEAT. 4 by the template 'for every input the law returns true; each argument reads behind the call as it read before'; 0 by the template 'total and deterministic' (their statements: YtaccfepnhmgagaaGreatDoorTotals.lean).
  GIVEN WITH THE SEED: the statements are not yours to turn. If you find one false, say at which input.
  Laid BY PROGRAM, IN A SANDBOX (cutbox-rows.mjs): the forced cells as the released guide's own fill.sh prints them over the translation f5dee246d80ff9f8… (all of the seat's roots in one cut). By AI agents, Wed Nov 11 2026. No macro, syntax, notation, axiom, sorry.
-/
import Derived.Test.YtaccfepnhmgagaaGreatDoorChecked
import GoSem.Claim
import GoSem.ClaimJoined
import GoSem.ClaimMapViews
import Derived.JoinedTies
import Derived.KernelRfl
namespace Go.Proofs.YtaccfepnhmgagaaGreatDoor
/- THE CELL 'sum', in the pinned program and in every row, IS THE sha256 OF THE DUMP (.gsa) THAT YtaccfepnhmgagaaGreatDoorProg.lean LOADS. Nothing in Lean hashes anything: it is a label: what it is worth is what the hold of that sum in a sandbox is worth. -/
noncomputable def Tryz.pinned : Pinned := { name := "ytaccfepnhmgagaagreatdoor", sum := "f5dee246d80ff9f8a3c1e23daaccd06da02cd43e523f9000fd2ec7deb99065a1", checked := Tryz.checked }
namespace Rows
def none {H : Type} : Left H := { results := [], args := [] }

/- WHAT THE LISTED PACKAGE-LEVEL VARIABLES READ AS WHEN THE CALL BEGINS. Each datum BY PROGRAM (the guide's laid-datum.mjs) off the statement by which the dump's own 'gosem.cut.vars' lays the variable. In a bare row this is a premise. The card (YtaccfepnhmgagaaGreatDoorCards.lean) ties it to the program's text. -/
def laid_armillary_word_bounds {H : Type} : DataW H := .agg [.agg [.lit (.int .i64 0), .lit (.int .i64 1073741824)], .agg [.lit (.int .i64 0), .lit (.int .i64 1073741824)], .agg [.lit (.int .i64 0), .lit (.int .i64 16777212)], .agg [.lit (.int .i64 0), .lit (.int .i64 16777212)], .agg [.lit (.int .i64 0), .lit (.int .i64 1048576)], .agg [.lit (.int .i64 (-1)), .lit (.int .i64 1048576)]]
def laid_armillary_walk_fields {H : Type} : DataW H := .agg [.lit (.int .i64 0), .lit (.int .i64 6), .lit (.int .i64 0), .lit (.int .i64 2), .lit (.int .i64 0)]

/-- 'armillarylaw15.CellTells': WHATEVER THE INPUT: true; the input reads as it did. -/
def cellTellsSpec : ChangeSpec := { name := "cellTells", fn := fun _ => fun
  | [d1, d2, d3, d4, d5] => { results := [.lit (.bool true)], args := [d1, d2, d3, d4, d5] }
  | _ => none }
def cellTellsRow : OpenClaim := { program := "ytaccfepnhmgagaagreatdoor", sum := "f5dee246d80ff9f8a3c1e23daaccd06da02cd43e523f9000fd2ec7deb99065a1", func := "armillary/armillarylaw15.CellTells", spec := "cellTells", named := ["armillary/word.bounds"], apart := false, laid := [("armillary/word.bounds", laid_armillary_word_bounds)] }
def CellTellsSaid : Prop := cellTellsRow.holds Tryz.pinned (OpenSpec.ofChange cellTellsSpec)

/-- ITS FALSE NEIGHBOUR: 'it returns false'. Refute it at one input. -/
def cellTellsWrong : ChangeSpec := { name := "cellTells", fn := fun _ => fun
  | [d1, d2, d3, d4, d5] => { results := [.lit (.bool false)], args := [d1, d2, d3, d4, d5] }
  | _ => none }
def CellTellsWrongFalsely : Prop := cellTellsRow.holds Tryz.pinned (OpenSpec.ofChange cellTellsWrong)

/-- 'armillarylaw15.CellWaits': WHATEVER THE INPUT: true; the input reads as it did. -/
def cellWaitsSpec : ChangeSpec := { name := "cellWaits", fn := fun _ => fun
  | [d1, d2, d3, d4] => { results := [.lit (.bool true)], args := [d1, d2, d3, d4] }
  | _ => none }
def cellWaitsRow : OpenClaim := { program := "ytaccfepnhmgagaagreatdoor", sum := "f5dee246d80ff9f8a3c1e23daaccd06da02cd43e523f9000fd2ec7deb99065a1", func := "armillary/armillarylaw15.CellWaits", spec := "cellWaits", named := ["armillary/word.bounds"], apart := false, laid := [("armillary/word.bounds", laid_armillary_word_bounds)] }
def CellWaitsSaid : Prop := cellWaitsRow.holds Tryz.pinned (OpenSpec.ofChange cellWaitsSpec)

/-- ITS FALSE NEIGHBOUR: 'it returns false'. Refute it at one input. -/
def cellWaitsWrong : ChangeSpec := { name := "cellWaits", fn := fun _ => fun
  | [d1, d2, d3, d4] => { results := [.lit (.bool false)], args := [d1, d2, d3, d4] }
  | _ => none }
def CellWaitsWrongFalsely : Prop := cellWaitsRow.holds Tryz.pinned (OpenSpec.ofChange cellWaitsWrong)

/-- 'armillarylaw11.LookMost': WHATEVER THE INPUT: true; the input reads as it did. -/
def lookMostSpec : ChangeSpec := { name := "lookMost", fn := fun _ => fun
  | [d1, d2, d3, d4, d5] => { results := [.lit (.bool true)], args := [d1, d2, d3, d4, d5] }
  | _ => none }
def lookMostRow : OpenClaim := { program := "ytaccfepnhmgagaagreatdoor", sum := "f5dee246d80ff9f8a3c1e23daaccd06da02cd43e523f9000fd2ec7deb99065a1", func := "armillary/armillarylaw11.LookMost", spec := "lookMost", unfollowed := true, recurses := true, named := ["armillary/word.bounds"], apart := false, laid := [("armillary/word.bounds", laid_armillary_word_bounds)] }
def LookMostSaid : Prop := lookMostRow.holds Tryz.pinned (OpenSpec.ofChange lookMostSpec)

/-- ITS FALSE NEIGHBOUR: 'it returns false'. Refute it at one input. -/
def lookMostWrong : ChangeSpec := { name := "lookMost", fn := fun _ => fun
  | [d1, d2, d3, d4, d5] => { results := [.lit (.bool false)], args := [d1, d2, d3, d4, d5] }
  | _ => none }
def LookMostWrongFalsely : Prop := lookMostRow.holds Tryz.pinned (OpenSpec.ofChange lookMostWrong)

/-- 'armillarylaw10.WalkMoves': WHATEVER THE INPUT: true; the input reads as it did. -/
def walkMovesSpec : ChangeSpec := { name := "walkMoves", fn := fun _ => fun
  | [d1, d2, d3] => { results := [.lit (.bool true)], args := [d1, d2, d3] }
  | _ => none }
def walkMovesRow : OpenClaim := { program := "ytaccfepnhmgagaagreatdoor", sum := "f5dee246d80ff9f8a3c1e23daaccd06da02cd43e523f9000fd2ec7deb99065a1", func := "armillary/armillarylaw10.WalkMoves", spec := "walkMoves", named := ["armillary/walk.fields"], apart := false, laid := [("armillary/walk.fields", laid_armillary_walk_fields)] }
def WalkMovesSaid : Prop := walkMovesRow.holds Tryz.pinned (OpenSpec.ofChange walkMovesSpec)

/-- ITS FALSE NEIGHBOUR: 'it returns false'. Refute it at one input. -/
def walkMovesWrong : ChangeSpec := { name := "walkMoves", fn := fun _ => fun
  | [d1, d2, d3] => { results := [.lit (.bool false)], args := [d1, d2, d3] }
  | _ => none }
def WalkMovesWrongFalsely : Prop := walkMovesRow.holds Tryz.pinned (OpenSpec.ofChange walkMovesWrong)

/- THE SECOND FORM. 'bulk': how many values and letters a reading holds, each counted each time it is reached (what is shared counts as often as it is met; a slice's spare places count too). A statement '..UptoSaid' is the law's where the arguments, and the package variables that the reading takes, are together of bulk at most 1048576: NARROWER than '..Said'. Prove '..Said' where nothing that the law and all that it calls make is longer than what came in: it says more and counts as full. Else prove '..UptoSaid'. A law counts once. -/
mutual
def uptoBulk {H : Type} : DataW H → Nat
  | .lit (.string bytes) => bytes.length + 1
  | .lit _ => 1
  | .nil => 1
  | .ptr d => uptoBulk d + 1
  | .slice elems spare => uptoBulkAll elems + uptoBulkAll spare + 1
  | .agg parts => uptoBulkAll parts + 1
  | .iface _ d => uptoBulk d + 1
  | .map entries => uptoBulkEntries entries + 1
  | .held _ => 1
def uptoBulkAll {H : Type} : List (DataW H) → Nat
  | [] => 0
  | d :: r => uptoBulk d + uptoBulkAll r
def uptoBulkEntries {H : Type} : List (Lit × DataW H) → Nat
  | [] => 0
  | x :: r => uptoBulkEntry x + uptoBulkEntries r
def uptoBulkEntry {H : Type} : Lit × DataW H → Nat
  | (.string bytes, d) => bytes.length + uptoBulk d + 1
  | (_, d) => uptoBulk d + 1
 end
def uptoSmall : (H : Type) → List (DataW H) → Bool := fun _ ds => decide (uptoBulkAll ds ≤ 1048576)
def OpenSpec.upto (s : _root_.Go.ChangeSpec) : _root_.Go.OpenSpec := { _root_.Go.OpenSpec.ofChange s with cond := some uptoSmall }

/-- 'armillarylaw15.CellTells', WHERE WHAT IT READS IS OF BULK AT MOST 1048576: true; the input reads as it did. -/
def cellTellsUptoRow : OpenClaim := { program := "ytaccfepnhmgagaagreatdoor", sum := "f5dee246d80ff9f8a3c1e23daaccd06da02cd43e523f9000fd2ec7deb99065a1", func := "armillary/armillarylaw15.CellTells", spec := "cellTells", named := ["armillary/word.bounds"], apart := false, laid := [("armillary/word.bounds", laid_armillary_word_bounds)], narrowed := true }
def CellTellsUptoSaid : Prop := cellTellsUptoRow.holds Tryz.pinned (OpenSpec.upto cellTellsSpec)

/-- 'armillarylaw15.CellWaits', WHERE WHAT IT READS IS OF BULK AT MOST 1048576: true; the input reads as it did. -/
def cellWaitsUptoRow : OpenClaim := { program := "ytaccfepnhmgagaagreatdoor", sum := "f5dee246d80ff9f8a3c1e23daaccd06da02cd43e523f9000fd2ec7deb99065a1", func := "armillary/armillarylaw15.CellWaits", spec := "cellWaits", named := ["armillary/word.bounds"], apart := false, laid := [("armillary/word.bounds", laid_armillary_word_bounds)], narrowed := true }
def CellWaitsUptoSaid : Prop := cellWaitsUptoRow.holds Tryz.pinned (OpenSpec.upto cellWaitsSpec)

/-- 'armillarylaw11.LookMost', WHERE WHAT IT READS IS OF BULK AT MOST 1048576: true; the input reads as it did. -/
def lookMostUptoRow : OpenClaim := { program := "ytaccfepnhmgagaagreatdoor", sum := "f5dee246d80ff9f8a3c1e23daaccd06da02cd43e523f9000fd2ec7deb99065a1", func := "armillary/armillarylaw11.LookMost", spec := "lookMost", unfollowed := true, recurses := true, named := ["armillary/word.bounds"], apart := false, laid := [("armillary/word.bounds", laid_armillary_word_bounds)], narrowed := true }
def LookMostUptoSaid : Prop := lookMostUptoRow.holds Tryz.pinned (OpenSpec.upto lookMostSpec)

/-- 'armillarylaw10.WalkMoves', WHERE WHAT IT READS IS OF BULK AT MOST 1048576: true; the input reads as it did. -/
def walkMovesUptoRow : OpenClaim := { program := "ytaccfepnhmgagaagreatdoor", sum := "f5dee246d80ff9f8a3c1e23daaccd06da02cd43e523f9000fd2ec7deb99065a1", func := "armillary/armillarylaw10.WalkMoves", spec := "walkMoves", named := ["armillary/walk.fields"], apart := false, laid := [("armillary/walk.fields", laid_armillary_walk_fields)], narrowed := true }
def WalkMovesUptoSaid : Prop := walkMovesUptoRow.holds Tryz.pinned (OpenSpec.upto walkMovesSpec)

end Rows
end Go.Proofs.YtaccfepnhmgagaaGreatDoor
