/-
  NARROWER THAN 'FOR EVERY INPUT', by the rows' own cells (each row's printed sentence says how): GetItems: laid.
  DERIVED. THE GIVEN ROWS OF THIS SEAT. 1 by the template 'for every input the law returns true; each argument reads behind the call as it read before'; 0 by the template 'total and deterministic' (their statements: YtjhefbenmhmbcaaDoorTotals.lean).
  GIVEN WITH THE SEED: the statements are not yours to turn. If you find one false, say at which input.
  Laid BY PROGRAM, IN A SANDBOX (cutbox-rows.mjs): the forced cells as the released guide's own fill.sh prints them over the translation b0d51afad29e6b27… (all of the seat's roots in one cut). By AI agents, Wed Nov 11 2026. No macro, syntax, notation, axiom, sorry.
-/
import Derived.Test.YtjhefbenmhmbcaaDoorChecked
import GoSem.Claim
import GoSem.ClaimJoined
import GoSem.ClaimMapViews
import Derived.JoinedTies
import Derived.KernelRfl
namespace Go.Proofs.YtjhefbenmhmbcaaDoor
/- THE CELL 'sum', in the pinned program and in every row, IS THE sha256 OF THE DUMP (.gsa) THAT YtjhefbenmhmbcaaDoorProg.lean LOADS. Nothing in Lean hashes anything: it is a label: what it is worth is what the hold of that sum in a sandbox is worth. -/
noncomputable def Tryd.pinned : Pinned := { name := "ytjhefbenmhmbcaadoor", sum := "b0d51afad29e6b2793e797d428a81b88b359c4cdfcba837fc77125e78f8c5123", checked := Tryd.checked }
namespace Rows
def none {H : Type} : Left H := { results := [], args := [] }

/- WHAT THE LISTED PACKAGE-LEVEL VARIABLES READ AS WHEN THE CALL BEGINS. Each datum BY PROGRAM (the guide's laid-datum.mjs) off the statement by which the dump's own 'gosem.cut.vars' lays the variable. In a bare row this is a premise. The card (YtjhefbenmhmbcaaDoorCards.lean) ties it to the program's text. -/
def laid_armillary_word_bounds {H : Type} : DataW H := .agg [.agg [.lit (.int .i64 0), .lit (.int .i64 1073741824)], .agg [.lit (.int .i64 0), .lit (.int .i64 1073741824)], .agg [.lit (.int .i64 0), .lit (.int .i64 16777212)], .agg [.lit (.int .i64 0), .lit (.int .i64 16777212)], .agg [.lit (.int .i64 0), .lit (.int .i64 1048576)], .agg [.lit (.int .i64 (-1)), .lit (.int .i64 1048576)]]
def laid_armillary_walk_fields {H : Type} : DataW H := .agg [.lit (.int .i64 0), .lit (.int .i64 6), .lit (.int .i64 0), .lit (.int .i64 2), .lit (.int .i64 0)]

/-- 'armillarylaw12.GetItems': WHATEVER THE INPUT: true; the input reads as it did. -/
def getItemsSpec : ChangeSpec := { name := "getItems", fn := fun _ => fun
  | [d1, d2, d3, d4, d5] => { results := [.lit (.bool true)], args := [d1, d2, d3, d4, d5] }
  | _ => none }
def getItemsRow : OpenClaim := { program := "ytjhefbenmhmbcaadoor", sum := "b0d51afad29e6b2793e797d428a81b88b359c4cdfcba837fc77125e78f8c5123", func := "armillary/armillarylaw12.GetItems", spec := "getItems", unfollowed := true, recurses := true, named := ["armillary/walk.fields", "armillary/word.bounds"], apart := false, laid := [("armillary/word.bounds", laid_armillary_word_bounds), ("armillary/walk.fields", laid_armillary_walk_fields)] }
def GetItemsSaid : Prop := getItemsRow.holds Tryd.pinned (OpenSpec.ofChange getItemsSpec)

/-- ITS FALSE NEIGHBOUR: 'it returns false'. Refute it at one input. -/
def getItemsWrong : ChangeSpec := { name := "getItems", fn := fun _ => fun
  | [d1, d2, d3, d4, d5] => { results := [.lit (.bool false)], args := [d1, d2, d3, d4, d5] }
  | _ => none }
def GetItemsWrongFalsely : Prop := getItemsRow.holds Tryd.pinned (OpenSpec.ofChange getItemsWrong)

/- THE SECOND FORM. 'bulk': how many values and letters a reading holds, each counted each time it is reached (what is shared counts as often as it is met; a slice's spare places count too). A statement '..UptoSaid' is the law's where the arguments, and the package variables that the reading takes, are together of bulk at most 1048576: NARROWER than '..Said'. Prove '..Said' where nothing that the law and all that it calls make is longer than what came in: it says more and counts as full. Else prove '..UptoSaid'. A law counts once. -/
mutual
def uptoBulk {H : Type} : DataW H → Nat
  | .lit (.string bytes) => bytes.length + 1
  | .lit _ => 1
  | .nil => 1
  | .ptr d => uptoBulk d + 1
  | .slice elems spare => uptoBulkAll elems + uptoBulkAll spare + 1
  | .agg parts => uptoBulkAll parts + 1
  | .iface _ d => uptoBulk d + 1
  | .map entries => uptoBulkEntries entries + 1
  | .held _ => 1
def uptoBulkAll {H : Type} : List (DataW H) → Nat
  | [] => 0
  | d :: r => uptoBulk d + uptoBulkAll r
def uptoBulkEntries {H : Type} : List (Lit × DataW H) → Nat
  | [] => 0
  | x :: r => uptoBulkEntry x + uptoBulkEntries r
def uptoBulkEntry {H : Type} : Lit × DataW H → Nat
  | (.string bytes, d) => bytes.length + uptoBulk d + 1
  | (_, d) => uptoBulk d + 1
 end
def uptoSmall : (H : Type) → List (DataW H) → Bool := fun _ ds => decide (uptoBulkAll ds ≤ 1048576)
def OpenSpec.upto (s : _root_.Go.ChangeSpec) : _root_.Go.OpenSpec := { _root_.Go.OpenSpec.ofChange s with cond := some uptoSmall }

/-- 'armillarylaw12.GetItems', WHERE WHAT IT READS IS OF BULK AT MOST 1048576: true; the input reads as it did. -/
def getItemsUptoRow : OpenClaim := { program := "ytjhefbenmhmbcaadoor", sum := "b0d51afad29e6b2793e797d428a81b88b359c4cdfcba837fc77125e78f8c5123", func := "armillary/armillarylaw12.GetItems", spec := "getItems", unfollowed := true, recurses := true, named := ["armillary/walk.fields", "armillary/word.bounds"], apart := false, laid := [("armillary/word.bounds", laid_armillary_word_bounds), ("armillary/walk.fields", laid_armillary_walk_fields)], narrowed := true }
def GetItemsUptoSaid : Prop := getItemsUptoRow.holds Tryd.pinned (OpenSpec.upto getItemsSpec)

end Rows
end Go.Proofs.YtjhefbenmhmbcaaDoor
