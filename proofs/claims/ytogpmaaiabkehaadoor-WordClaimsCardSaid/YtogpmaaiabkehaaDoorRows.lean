/-
  NARROWER THAN 'FOR EVERY INPUT', by the rows' own cells (each row's printed sentence says how): WordBack: laid · WordMarks: laid · WordStates: laid · WordClaims: laid · WordDatas: laid.
  DERIVED. THE GIVEN ROWS OF THIS SEAT. 5 by the template 'for every input the law returns true; each argument reads behind the call as it read before'; 0 by the template 'total and deterministic' (their statements: YtogpmaaiabkehaaDoorTotals.lean).
  GIVEN WITH THE SEED: the statements are not yours to turn. If you find one false, say at which input.
  Laid BY PROGRAM, IN A SANDBOX (cutbox-rows.mjs): the forced cells as the released guide's own fill.sh prints them over the translation ff9e2570e71a8aa0… (all of the seat's roots in one cut). By AI agents, Wed Nov 11 2026. No macro, syntax, notation, axiom, sorry.
-/
import Derived.Test.YtogpmaaiabkehaaDoorChecked
import GoSem.Claim
import GoSem.ClaimJoined
import GoSem.ClaimMapViews
import Derived.JoinedTies
import Derived.KernelRfl
namespace Go.Proofs.YtogpmaaiabkehaaDoor
/- THE CELL 'sum', in the pinned program and in every row, IS THE sha256 OF THE DUMP (.gsa) THAT YtogpmaaiabkehaaDoorProg.lean LOADS. Nothing in Lean hashes anything: it is a label: what it is worth is what the hold of that sum in a sandbox is worth. -/
noncomputable def Tryd.pinned : Pinned := { name := "ytogpmaaiabkehaadoor", sum := "ff9e2570e71a8aa05660c2ae8c5559adb375dd63063ab5f65169c3ebc0f8cdee", checked := Tryd.checked }
namespace Rows
def none {H : Type} : Left H := { results := [], args := [] }

/- WHAT THE LISTED PACKAGE-LEVEL VARIABLES READ AS WHEN THE CALL BEGINS. Each datum BY PROGRAM (the guide's laid-datum.mjs) off the statement by which the dump's own 'gosem.cut.vars' lays the variable. In a bare row this is a premise. The card (YtogpmaaiabkehaaDoorCards.lean) ties it to the program's text. -/
def laid_armillary_word_bounds {H : Type} : DataW H := .agg [.agg [.lit (.int .i64 0), .lit (.int .i64 1073741824)], .agg [.lit (.int .i64 0), .lit (.int .i64 1073741824)], .agg [.lit (.int .i64 0), .lit (.int .i64 16777212)], .agg [.lit (.int .i64 0), .lit (.int .i64 16777212)], .agg [.lit (.int .i64 0), .lit (.int .i64 1048576)], .agg [.lit (.int .i64 (-1)), .lit (.int .i64 1048576)]]

/-- 'armillarylaw1.WordBack': WHATEVER THE INPUT: true; the input reads as it did. -/
def wordBackSpec : ChangeSpec := { name := "wordBack", fn := fun _ => fun
  | [d1, d2, d3, d4, d5, d6, d7] => { results := [.lit (.bool true)], args := [d1, d2, d3, d4, d5, d6, d7] }
  | _ => none }
def wordBackRow : OpenClaim := { program := "ytogpmaaiabkehaadoor", sum := "ff9e2570e71a8aa05660c2ae8c5559adb375dd63063ab5f65169c3ebc0f8cdee", func := "armillary/armillarylaw1.WordBack", spec := "wordBack", named := ["armillary/word.bounds"], apart := false, laid := [("armillary/word.bounds", laid_armillary_word_bounds)] }
def WordBackSaid : Prop := wordBackRow.holds Tryd.pinned (OpenSpec.ofChange wordBackSpec)

/-- ITS FALSE NEIGHBOUR: 'it returns false'. Refute it at one input. -/
def wordBackWrong : ChangeSpec := { name := "wordBack", fn := fun _ => fun
  | [d1, d2, d3, d4, d5, d6, d7] => { results := [.lit (.bool false)], args := [d1, d2, d3, d4, d5, d6, d7] }
  | _ => none }
def WordBackWrongFalsely : Prop := wordBackRow.holds Tryd.pinned (OpenSpec.ofChange wordBackWrong)

/-- 'armillarylaw1.WordMarks': WHATEVER THE INPUT: true; the input reads as it did. -/
def wordMarksSpec : ChangeSpec := { name := "wordMarks", fn := fun _ => fun
  | [d] => { results := [.lit (.bool true)], args := [d] }
  | _ => none }
def wordMarksRow : OpenClaim := { program := "ytogpmaaiabkehaadoor", sum := "ff9e2570e71a8aa05660c2ae8c5559adb375dd63063ab5f65169c3ebc0f8cdee", func := "armillary/armillarylaw1.WordMarks", spec := "wordMarks", named := ["armillary/word.bounds"], apart := false, laid := [("armillary/word.bounds", laid_armillary_word_bounds)] }
def WordMarksSaid : Prop := wordMarksRow.holds Tryd.pinned (OpenSpec.ofChange wordMarksSpec)

/-- ITS FALSE NEIGHBOUR: 'it returns false'. Refute it at one input. -/
def wordMarksWrong : ChangeSpec := { name := "wordMarks", fn := fun _ => fun
  | [d] => { results := [.lit (.bool false)], args := [d] }
  | _ => none }
def WordMarksWrongFalsely : Prop := wordMarksRow.holds Tryd.pinned (OpenSpec.ofChange wordMarksWrong)

/-- 'armillarylaw1.WordStates': WHATEVER THE INPUT: true; the input reads as it did. -/
def wordStatesSpec : ChangeSpec := { name := "wordStates", fn := fun _ => fun
  | [d1, d2] => { results := [.lit (.bool true)], args := [d1, d2] }
  | _ => none }
def wordStatesRow : OpenClaim := { program := "ytogpmaaiabkehaadoor", sum := "ff9e2570e71a8aa05660c2ae8c5559adb375dd63063ab5f65169c3ebc0f8cdee", func := "armillary/armillarylaw1.WordStates", spec := "wordStates", named := ["armillary/word.bounds"], apart := false, laid := [("armillary/word.bounds", laid_armillary_word_bounds)] }
def WordStatesSaid : Prop := wordStatesRow.holds Tryd.pinned (OpenSpec.ofChange wordStatesSpec)

/-- ITS FALSE NEIGHBOUR: 'it returns false'. Refute it at one input. -/
def wordStatesWrong : ChangeSpec := { name := "wordStates", fn := fun _ => fun
  | [d1, d2] => { results := [.lit (.bool false)], args := [d1, d2] }
  | _ => none }
def WordStatesWrongFalsely : Prop := wordStatesRow.holds Tryd.pinned (OpenSpec.ofChange wordStatesWrong)

/-- 'armillarylaw1.WordClaims': WHATEVER THE INPUT: true; the input reads as it did. -/
def wordClaimsSpec : ChangeSpec := { name := "wordClaims", fn := fun _ => fun
  | [d1, d2, d3] => { results := [.lit (.bool true)], args := [d1, d2, d3] }
  | _ => none }
def wordClaimsRow : OpenClaim := { program := "ytogpmaaiabkehaadoor", sum := "ff9e2570e71a8aa05660c2ae8c5559adb375dd63063ab5f65169c3ebc0f8cdee", func := "armillary/armillarylaw1.WordClaims", spec := "wordClaims", named := ["armillary/word.bounds"], apart := false, laid := [("armillary/word.bounds", laid_armillary_word_bounds)] }
def WordClaimsSaid : Prop := wordClaimsRow.holds Tryd.pinned (OpenSpec.ofChange wordClaimsSpec)

/-- ITS FALSE NEIGHBOUR: 'it returns false'. Refute it at one input. -/
def wordClaimsWrong : ChangeSpec := { name := "wordClaims", fn := fun _ => fun
  | [d1, d2, d3] => { results := [.lit (.bool false)], args := [d1, d2, d3] }
  | _ => none }
def WordClaimsWrongFalsely : Prop := wordClaimsRow.holds Tryd.pinned (OpenSpec.ofChange wordClaimsWrong)

/-- 'armillarylaw1.WordDatas': WHATEVER THE INPUT: true; the input reads as it did. -/
def wordDatasSpec : ChangeSpec := { name := "wordDatas", fn := fun _ => fun
  | [d1, d2, d3, d4] => { results := [.lit (.bool true)], args := [d1, d2, d3, d4] }
  | _ => none }
def wordDatasRow : OpenClaim := { program := "ytogpmaaiabkehaadoor", sum := "ff9e2570e71a8aa05660c2ae8c5559adb375dd63063ab5f65169c3ebc0f8cdee", func := "armillary/armillarylaw1.WordDatas", spec := "wordDatas", named := ["armillary/word.bounds"], apart := false, laid := [("armillary/word.bounds", laid_armillary_word_bounds)] }
def WordDatasSaid : Prop := wordDatasRow.holds Tryd.pinned (OpenSpec.ofChange wordDatasSpec)

/-- ITS FALSE NEIGHBOUR: 'it returns false'. Refute it at one input. -/
def wordDatasWrong : ChangeSpec := { name := "wordDatas", fn := fun _ => fun
  | [d1, d2, d3, d4] => { results := [.lit (.bool false)], args := [d1, d2, d3, d4] }
  | _ => none }
def WordDatasWrongFalsely : Prop := wordDatasRow.holds Tryd.pinned (OpenSpec.ofChange wordDatasWrong)

/- THE SECOND FORM. 'bulk': how many values and letters a reading holds, each counted each time it is reached (what is shared counts as often as it is met; a slice's spare places count too). A statement '..UptoSaid' is the law's where the arguments, and the package variables that the reading takes, are together of bulk at most 1048576: NARROWER than '..Said'. Prove '..Said' where nothing that the law and all that it calls make is longer than what came in: it says more and counts as full. Else prove '..UptoSaid'. A law counts once. -/
mutual
def uptoBulk {H : Type} : DataW H → Nat
  | .lit (.string bytes) => bytes.length + 1
  | .lit _ => 1
  | .nil => 1
  | .ptr d => uptoBulk d + 1
  | .slice elems spare => uptoBulkAll elems + uptoBulkAll spare + 1
  | .agg parts => uptoBulkAll parts + 1
  | .iface _ d => uptoBulk d + 1
  | .map entries => uptoBulkEntries entries + 1
  | .held _ => 1
def uptoBulkAll {H : Type} : List (DataW H) → Nat
  | [] => 0
  | d :: r => uptoBulk d + uptoBulkAll r
def uptoBulkEntries {H : Type} : List (Lit × DataW H) → Nat
  | [] => 0
  | x :: r => uptoBulkEntry x + uptoBulkEntries r
def uptoBulkEntry {H : Type} : Lit × DataW H → Nat
  | (.string bytes, d) => bytes.length + uptoBulk d + 1
  | (_, d) => uptoBulk d + 1
 end
def uptoSmall : (H : Type) → List (DataW H) → Bool := fun _ ds => decide (uptoBulkAll ds ≤ 1048576)
def OpenSpec.upto (s : _root_.Go.ChangeSpec) : _root_.Go.OpenSpec := { _root_.Go.OpenSpec.ofChange s with cond := some uptoSmall }

/-- 'armillarylaw1.WordBack', WHERE WHAT IT READS IS OF BULK AT MOST 1048576: true; the input reads as it did. -/
def wordBackUptoRow : OpenClaim := { program := "ytogpmaaiabkehaadoor", sum := "ff9e2570e71a8aa05660c2ae8c5559adb375dd63063ab5f65169c3ebc0f8cdee", func := "armillary/armillarylaw1.WordBack", spec := "wordBack", named := ["armillary/word.bounds"], apart := false, laid := [("armillary/word.bounds", laid_armillary_word_bounds)], narrowed := true }
def WordBackUptoSaid : Prop := wordBackUptoRow.holds Tryd.pinned (OpenSpec.upto wordBackSpec)

/-- 'armillarylaw1.WordMarks', WHERE WHAT IT READS IS OF BULK AT MOST 1048576: true; the input reads as it did. -/
def wordMarksUptoRow : OpenClaim := { program := "ytogpmaaiabkehaadoor", sum := "ff9e2570e71a8aa05660c2ae8c5559adb375dd63063ab5f65169c3ebc0f8cdee", func := "armillary/armillarylaw1.WordMarks", spec := "wordMarks", named := ["armillary/word.bounds"], apart := false, laid := [("armillary/word.bounds", laid_armillary_word_bounds)], narrowed := true }
def WordMarksUptoSaid : Prop := wordMarksUptoRow.holds Tryd.pinned (OpenSpec.upto wordMarksSpec)

/-- 'armillarylaw1.WordStates', WHERE WHAT IT READS IS OF BULK AT MOST 1048576: true; the input reads as it did. -/
def wordStatesUptoRow : OpenClaim := { program := "ytogpmaaiabkehaadoor", sum := "ff9e2570e71a8aa05660c2ae8c5559adb375dd63063ab5f65169c3ebc0f8cdee", func := "armillary/armillarylaw1.WordStates", spec := "wordStates", named := ["armillary/word.bounds"], apart := false, laid := [("armillary/word.bounds", laid_armillary_word_bounds)], narrowed := true }
def WordStatesUptoSaid : Prop := wordStatesUptoRow.holds Tryd.pinned (OpenSpec.upto wordStatesSpec)

/-- 'armillarylaw1.WordClaims', WHERE WHAT IT READS IS OF BULK AT MOST 1048576: true; the input reads as it did. -/
def wordClaimsUptoRow : OpenClaim := { program := "ytogpmaaiabkehaadoor", sum := "ff9e2570e71a8aa05660c2ae8c5559adb375dd63063ab5f65169c3ebc0f8cdee", func := "armillary/armillarylaw1.WordClaims", spec := "wordClaims", named := ["armillary/word.bounds"], apart := false, laid := [("armillary/word.bounds", laid_armillary_word_bounds)], narrowed := true }
def WordClaimsUptoSaid : Prop := wordClaimsUptoRow.holds Tryd.pinned (OpenSpec.upto wordClaimsSpec)

/-- 'armillarylaw1.WordDatas', WHERE WHAT IT READS IS OF BULK AT MOST 1048576: true; the input reads as it did. -/
def wordDatasUptoRow : OpenClaim := { program := "ytogpmaaiabkehaadoor", sum := "ff9e2570e71a8aa05660c2ae8c5559adb375dd63063ab5f65169c3ebc0f8cdee", func := "armillary/armillarylaw1.WordDatas", spec := "wordDatas", named := ["armillary/word.bounds"], apart := false, laid := [("armillary/word.bounds", laid_armillary_word_bounds)], narrowed := true }
def WordDatasUptoSaid : Prop := wordDatasUptoRow.holds Tryd.pinned (OpenSpec.upto wordDatasSpec)

end Rows
end Go.Proofs.YtogpmaaiabkehaaDoor
