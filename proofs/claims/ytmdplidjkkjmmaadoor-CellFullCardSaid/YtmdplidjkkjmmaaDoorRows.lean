/-
  NARROWER THAN 'FOR EVERY INPUT', by the rows' own cells (each row's printed sentence says how): CellDies: laid · CellFull: laid · CellApart: laid.
  DERIVED. THE GIVEN ROWS OF THIS SEAT. 3 by the template 'for every input the law returns true; each argument reads behind the call as it read before'; 0 by the template 'total and deterministic' (their statements: YtmdplidjkkjmmaaDoorTotals.lean).
  GIVEN WITH THE SEED: the statements are not yours to turn. If you find one false, say at which input.
  Laid BY PROGRAM, IN A SANDBOX (cutbox-rows.mjs): the forced cells as the released guide's own fill.sh prints them over the translation 96fae2230325a83b… (all of the seat's roots in one cut). By AI agents, Wed Nov 11 2026. No macro, syntax, notation, axiom, sorry.
-/
import Derived.Test.YtmdplidjkkjmmaaDoorChecked
import GoSem.Claim
import GoSem.ClaimJoined
import GoSem.ClaimMapViews
import Derived.JoinedTies
import Derived.KernelRfl
namespace Go.Proofs.YtmdplidjkkjmmaaDoor
/- THE CELL 'sum', in the pinned program and in every row, IS THE sha256 OF THE DUMP (.gsa) THAT YtmdplidjkkjmmaaDoorProg.lean LOADS. Nothing in Lean hashes anything: it is a label: what it is worth is what the hold of that sum in a sandbox is worth. -/
noncomputable def Tryd.pinned : Pinned := { name := "ytmdplidjkkjmmaadoor", sum := "96fae2230325a83b4e23c8e4aced18967371c4e78763cc4c297fb5d6a0dc6f0e", checked := Tryd.checked }
namespace Rows
def none {H : Type} : Left H := { results := [], args := [] }

/- WHAT THE LISTED PACKAGE-LEVEL VARIABLES READ AS WHEN THE CALL BEGINS. Each datum BY PROGRAM (the guide's laid-datum.mjs) off the statement by which the dump's own 'gosem.cut.vars' lays the variable. In a bare row this is a premise. The card (YtmdplidjkkjmmaaDoorCards.lean) ties it to the program's text. -/
def laid_armillary_word_bounds {H : Type} : DataW H := .agg [.agg [.lit (.int .i64 0), .lit (.int .i64 1073741824)], .agg [.lit (.int .i64 0), .lit (.int .i64 1073741824)], .agg [.lit (.int .i64 0), .lit (.int .i64 16777212)], .agg [.lit (.int .i64 0), .lit (.int .i64 16777212)], .agg [.lit (.int .i64 0), .lit (.int .i64 1048576)], .agg [.lit (.int .i64 (-1)), .lit (.int .i64 1048576)]]

/-- 'armillarylaw15.CellDies': WHATEVER THE INPUT: true; the input reads as it did. -/
def cellDiesSpec : ChangeSpec := { name := "cellDies", fn := fun _ => fun
  | [d1, d2, d3] => { results := [.lit (.bool true)], args := [d1, d2, d3] }
  | _ => none }
def cellDiesRow : OpenClaim := { program := "ytmdplidjkkjmmaadoor", sum := "96fae2230325a83b4e23c8e4aced18967371c4e78763cc4c297fb5d6a0dc6f0e", func := "armillary/armillarylaw15.CellDies", spec := "cellDies", named := ["armillary/word.bounds"], apart := false, laid := [("armillary/word.bounds", laid_armillary_word_bounds)] }
def CellDiesSaid : Prop := cellDiesRow.holds Tryd.pinned (OpenSpec.ofChange cellDiesSpec)

/-- ITS FALSE NEIGHBOUR: 'it returns false'. Refute it at one input. -/
def cellDiesWrong : ChangeSpec := { name := "cellDies", fn := fun _ => fun
  | [d1, d2, d3] => { results := [.lit (.bool false)], args := [d1, d2, d3] }
  | _ => none }
def CellDiesWrongFalsely : Prop := cellDiesRow.holds Tryd.pinned (OpenSpec.ofChange cellDiesWrong)

/-- 'armillarylaw15.CellFull': WHATEVER THE INPUT: true; the input reads as it did. -/
def cellFullSpec : ChangeSpec := { name := "cellFull", fn := fun _ => fun
  | [d1, d2] => { results := [.lit (.bool true)], args := [d1, d2] }
  | _ => none }
def cellFullRow : OpenClaim := { program := "ytmdplidjkkjmmaadoor", sum := "96fae2230325a83b4e23c8e4aced18967371c4e78763cc4c297fb5d6a0dc6f0e", func := "armillary/armillarylaw15.CellFull", spec := "cellFull", named := ["armillary/word.bounds"], apart := false, laid := [("armillary/word.bounds", laid_armillary_word_bounds)] }
def CellFullSaid : Prop := cellFullRow.holds Tryd.pinned (OpenSpec.ofChange cellFullSpec)

/-- ITS FALSE NEIGHBOUR: 'it returns false'. Refute it at one input. -/
def cellFullWrong : ChangeSpec := { name := "cellFull", fn := fun _ => fun
  | [d1, d2] => { results := [.lit (.bool false)], args := [d1, d2] }
  | _ => none }
def CellFullWrongFalsely : Prop := cellFullRow.holds Tryd.pinned (OpenSpec.ofChange cellFullWrong)

/-- 'armillarylaw15.CellApart': WHATEVER THE INPUT: true; the input reads as it did. -/
def cellApartSpec : ChangeSpec := { name := "cellApart", fn := fun _ => fun
  | [d1, d2, d3] => { results := [.lit (.bool true)], args := [d1, d2, d3] }
  | _ => none }
def cellApartRow : OpenClaim := { program := "ytmdplidjkkjmmaadoor", sum := "96fae2230325a83b4e23c8e4aced18967371c4e78763cc4c297fb5d6a0dc6f0e", func := "armillary/armillarylaw15.CellApart", spec := "cellApart", named := ["armillary/word.bounds"], apart := false, laid := [("armillary/word.bounds", laid_armillary_word_bounds)] }
def CellApartSaid : Prop := cellApartRow.holds Tryd.pinned (OpenSpec.ofChange cellApartSpec)

/-- ITS FALSE NEIGHBOUR: 'it returns false'. Refute it at one input. -/
def cellApartWrong : ChangeSpec := { name := "cellApart", fn := fun _ => fun
  | [d1, d2, d3] => { results := [.lit (.bool false)], args := [d1, d2, d3] }
  | _ => none }
def CellApartWrongFalsely : Prop := cellApartRow.holds Tryd.pinned (OpenSpec.ofChange cellApartWrong)

/- THE SECOND FORM. 'bulk': how many values and letters a reading holds, each counted each time it is reached (what is shared counts as often as it is met; a slice's spare places count too). A statement '..UptoSaid' is the law's where the arguments, and the package variables that the reading takes, are together of bulk at most 1048576: NARROWER than '..Said'. Prove '..Said' where nothing that the law and all that it calls make is longer than what came in: it says more and counts as full. Else prove '..UptoSaid'. A law counts once. -/
mutual
def uptoBulk {H : Type} : DataW H → Nat
  | .lit (.string bytes) => bytes.length + 1
  | .lit _ => 1
  | .nil => 1
  | .ptr d => uptoBulk d + 1
  | .slice elems spare => uptoBulkAll elems + uptoBulkAll spare + 1
  | .agg parts => uptoBulkAll parts + 1
  | .iface _ d => uptoBulk d + 1
  | .map entries => uptoBulkEntries entries + 1
  | .held _ => 1
def uptoBulkAll {H : Type} : List (DataW H) → Nat
  | [] => 0
  | d :: r => uptoBulk d + uptoBulkAll r
def uptoBulkEntries {H : Type} : List (Lit × DataW H) → Nat
  | [] => 0
  | x :: r => uptoBulkEntry x + uptoBulkEntries r
def uptoBulkEntry {H : Type} : Lit × DataW H → Nat
  | (.string bytes, d) => bytes.length + uptoBulk d + 1
  | (_, d) => uptoBulk d + 1
 end
def uptoSmall : (H : Type) → List (DataW H) → Bool := fun _ ds => decide (uptoBulkAll ds ≤ 1048576)
def OpenSpec.upto (s : _root_.Go.ChangeSpec) : _root_.Go.OpenSpec := { _root_.Go.OpenSpec.ofChange s with cond := some uptoSmall }

/-- 'armillarylaw15.CellDies', WHERE WHAT IT READS IS OF BULK AT MOST 1048576: true; the input reads as it did. -/
def cellDiesUptoRow : OpenClaim := { program := "ytmdplidjkkjmmaadoor", sum := "96fae2230325a83b4e23c8e4aced18967371c4e78763cc4c297fb5d6a0dc6f0e", func := "armillary/armillarylaw15.CellDies", spec := "cellDies", named := ["armillary/word.bounds"], apart := false, laid := [("armillary/word.bounds", laid_armillary_word_bounds)], narrowed := true }
def CellDiesUptoSaid : Prop := cellDiesUptoRow.holds Tryd.pinned (OpenSpec.upto cellDiesSpec)

/-- 'armillarylaw15.CellFull', WHERE WHAT IT READS IS OF BULK AT MOST 1048576: true; the input reads as it did. -/
def cellFullUptoRow : OpenClaim := { program := "ytmdplidjkkjmmaadoor", sum := "96fae2230325a83b4e23c8e4aced18967371c4e78763cc4c297fb5d6a0dc6f0e", func := "armillary/armillarylaw15.CellFull", spec := "cellFull", named := ["armillary/word.bounds"], apart := false, laid := [("armillary/word.bounds", laid_armillary_word_bounds)], narrowed := true }
def CellFullUptoSaid : Prop := cellFullUptoRow.holds Tryd.pinned (OpenSpec.upto cellFullSpec)

/-- 'armillarylaw15.CellApart', WHERE WHAT IT READS IS OF BULK AT MOST 1048576: true; the input reads as it did. -/
def cellApartUptoRow : OpenClaim := { program := "ytmdplidjkkjmmaadoor", sum := "96fae2230325a83b4e23c8e4aced18967371c4e78763cc4c297fb5d6a0dc6f0e", func := "armillary/armillarylaw15.CellApart", spec := "cellApart", named := ["armillary/word.bounds"], apart := false, laid := [("armillary/word.bounds", laid_armillary_word_bounds)], narrowed := true }
def CellApartUptoSaid : Prop := cellApartUptoRow.holds Tryd.pinned (OpenSpec.upto cellApartSpec)

end Rows
end Go.Proofs.YtmdplidjkkjmmaaDoor
