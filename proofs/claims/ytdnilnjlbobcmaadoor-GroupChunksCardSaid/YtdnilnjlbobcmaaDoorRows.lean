/-
  NARROWER THAN 'FOR EVERY INPUT', by the rows' own cells (each row's printed sentence says how): GroupTells: laid · GroupKeys: laid · GroupFree: laid · GroupChunks: laid · GroupMins: laid.
  DERIVED. THE GIVEN ROWS OF THIS SEAT. 5 by the template 'for every input the law returns true; each argument reads behind the call as it read before'; 0 by the template 'total and deterministic' (their statements: YtdnilnjlbobcmaaDoorTotals.lean).
  GIVEN WITH THE SEED: the statements are not yours to turn. If you find one false, say at which input.
  Laid BY PROGRAM, IN A SANDBOX (cutbox-rows.mjs): the forced cells as the released guide's own fill.sh prints them over the translation 3ff7ef9cac94c0f7… (all of the seat's roots in one cut). By AI agents, Wed Nov 11 2026. No macro, syntax, notation, axiom, sorry.
-/
import Derived.Test.YtdnilnjlbobcmaaDoorChecked
import GoSem.Claim
import GoSem.ClaimJoined
import GoSem.ClaimMapViews
import Derived.JoinedTies
import Derived.KernelRfl
namespace Go.Proofs.YtdnilnjlbobcmaaDoor
/- THE CELL 'sum', in the pinned program and in every row, IS THE sha256 OF THE DUMP (.gsa) THAT YtdnilnjlbobcmaaDoorProg.lean LOADS. Nothing in Lean hashes anything: it is a label: what it is worth is what the hold of that sum in a sandbox is worth. -/
noncomputable def Tryd.pinned : Pinned := { name := "ytdnilnjlbobcmaadoor", sum := "3ff7ef9cac94c0f79330e545f49d842df7ce0fe178df1a67897154d247d193b8", checked := Tryd.checked }
namespace Rows
def none {H : Type} : Left H := { results := [], args := [] }

/- WHAT THE LISTED PACKAGE-LEVEL VARIABLES READ AS WHEN THE CALL BEGINS. Each datum BY PROGRAM (the guide's laid-datum.mjs) off the statement by which the dump's own 'gosem.cut.vars' lays the variable. In a bare row this is a premise. The card (YtdnilnjlbobcmaaDoorCards.lean) ties it to the program's text. -/
def laid_armillary_word_bounds {H : Type} : DataW H := .agg [.agg [.lit (.int .i64 0), .lit (.int .i64 1073741824)], .agg [.lit (.int .i64 0), .lit (.int .i64 1073741824)], .agg [.lit (.int .i64 0), .lit (.int .i64 16777212)], .agg [.lit (.int .i64 0), .lit (.int .i64 16777212)], .agg [.lit (.int .i64 0), .lit (.int .i64 1048576)], .agg [.lit (.int .i64 (-1)), .lit (.int .i64 1048576)]]

/-- 'armillarylaw9.GroupTells': WHATEVER THE INPUT: true; the input reads as it did. -/
def groupTellsSpec : ChangeSpec := { name := "groupTells", fn := fun _ => fun
  | [d1, d2, d3, d4, d5, d6] => { results := [.lit (.bool true)], args := [d1, d2, d3, d4, d5, d6] }
  | _ => none }
def groupTellsRow : OpenClaim := { program := "ytdnilnjlbobcmaadoor", sum := "3ff7ef9cac94c0f79330e545f49d842df7ce0fe178df1a67897154d247d193b8", func := "armillary/armillarylaw9.GroupTells", spec := "groupTells", unfollowed := true, recurses := true, named := ["armillary/word.bounds"], plainKeys := false, apart := false, laid := [("armillary/word.bounds", laid_armillary_word_bounds)] }
def GroupTellsSaid : Prop := groupTellsRow.holds Tryd.pinned (OpenSpec.ofChange groupTellsSpec)

/-- ITS FALSE NEIGHBOUR: 'it returns false'. Refute it at one input. -/
def groupTellsWrong : ChangeSpec := { name := "groupTells", fn := fun _ => fun
  | [d1, d2, d3, d4, d5, d6] => { results := [.lit (.bool false)], args := [d1, d2, d3, d4, d5, d6] }
  | _ => none }
def GroupTellsWrongFalsely : Prop := groupTellsRow.holds Tryd.pinned (OpenSpec.ofChange groupTellsWrong)

/-- 'armillarylaw9.GroupKeys': WHATEVER THE INPUT: true; the input reads as it did. -/
def groupKeysSpec : ChangeSpec := { name := "groupKeys", fn := fun _ => fun
  | [d1, d2] => { results := [.lit (.bool true)], args := [d1, d2] }
  | _ => none }
def groupKeysRow : OpenClaim := { program := "ytdnilnjlbobcmaadoor", sum := "3ff7ef9cac94c0f79330e545f49d842df7ce0fe178df1a67897154d247d193b8", func := "armillary/armillarylaw9.GroupKeys", spec := "groupKeys", unfollowed := true, recurses := true, named := ["armillary/word.bounds"], plainKeys := false, apart := false, laid := [("armillary/word.bounds", laid_armillary_word_bounds)] }
def GroupKeysSaid : Prop := groupKeysRow.holds Tryd.pinned (OpenSpec.ofChange groupKeysSpec)

/-- ITS FALSE NEIGHBOUR: 'it returns false'. Refute it at one input. -/
def groupKeysWrong : ChangeSpec := { name := "groupKeys", fn := fun _ => fun
  | [d1, d2] => { results := [.lit (.bool false)], args := [d1, d2] }
  | _ => none }
def GroupKeysWrongFalsely : Prop := groupKeysRow.holds Tryd.pinned (OpenSpec.ofChange groupKeysWrong)

/-- 'armillarylaw9.GroupFree': WHATEVER THE INPUT: true; the input reads as it did. -/
def groupFreeSpec : ChangeSpec := { name := "groupFree", fn := fun _ => fun
  | [d1, d2, d3] => { results := [.lit (.bool true)], args := [d1, d2, d3] }
  | _ => none }
def groupFreeRow : OpenClaim := { program := "ytdnilnjlbobcmaadoor", sum := "3ff7ef9cac94c0f79330e545f49d842df7ce0fe178df1a67897154d247d193b8", func := "armillary/armillarylaw9.GroupFree", spec := "groupFree", unfollowed := true, recurses := true, named := ["armillary/word.bounds"], plainKeys := false, apart := false, laid := [("armillary/word.bounds", laid_armillary_word_bounds)] }
def GroupFreeSaid : Prop := groupFreeRow.holds Tryd.pinned (OpenSpec.ofChange groupFreeSpec)

/-- ITS FALSE NEIGHBOUR: 'it returns false'. Refute it at one input. -/
def groupFreeWrong : ChangeSpec := { name := "groupFree", fn := fun _ => fun
  | [d1, d2, d3] => { results := [.lit (.bool false)], args := [d1, d2, d3] }
  | _ => none }
def GroupFreeWrongFalsely : Prop := groupFreeRow.holds Tryd.pinned (OpenSpec.ofChange groupFreeWrong)

/-- 'armillarylaw9.GroupChunks': WHATEVER THE INPUT: true; the input reads as it did. -/
def groupChunksSpec : ChangeSpec := { name := "groupChunks", fn := fun _ => fun
  | [d1, d2, d3] => { results := [.lit (.bool true)], args := [d1, d2, d3] }
  | _ => none }
def groupChunksRow : OpenClaim := { program := "ytdnilnjlbobcmaadoor", sum := "3ff7ef9cac94c0f79330e545f49d842df7ce0fe178df1a67897154d247d193b8", func := "armillary/armillarylaw9.GroupChunks", spec := "groupChunks", unfollowed := true, recurses := true, named := ["armillary/word.bounds"], plainKeys := false, apart := false, laid := [("armillary/word.bounds", laid_armillary_word_bounds)] }
def GroupChunksSaid : Prop := groupChunksRow.holds Tryd.pinned (OpenSpec.ofChange groupChunksSpec)

/-- ITS FALSE NEIGHBOUR: 'it returns false'. Refute it at one input. -/
def groupChunksWrong : ChangeSpec := { name := "groupChunks", fn := fun _ => fun
  | [d1, d2, d3] => { results := [.lit (.bool false)], args := [d1, d2, d3] }
  | _ => none }
def GroupChunksWrongFalsely : Prop := groupChunksRow.holds Tryd.pinned (OpenSpec.ofChange groupChunksWrong)

/-- 'armillarylaw9.GroupMins': WHATEVER THE INPUT: true; the input reads as it did. -/
def groupMinsSpec : ChangeSpec := { name := "groupMins", fn := fun _ => fun
  | [d1, d2, d3] => { results := [.lit (.bool true)], args := [d1, d2, d3] }
  | _ => none }
def groupMinsRow : OpenClaim := { program := "ytdnilnjlbobcmaadoor", sum := "3ff7ef9cac94c0f79330e545f49d842df7ce0fe178df1a67897154d247d193b8", func := "armillary/armillarylaw9.GroupMins", spec := "groupMins", unfollowed := true, recurses := true, named := ["armillary/word.bounds"], plainKeys := false, apart := false, laid := [("armillary/word.bounds", laid_armillary_word_bounds)] }
def GroupMinsSaid : Prop := groupMinsRow.holds Tryd.pinned (OpenSpec.ofChange groupMinsSpec)

/-- ITS FALSE NEIGHBOUR: 'it returns false'. Refute it at one input. -/
def groupMinsWrong : ChangeSpec := { name := "groupMins", fn := fun _ => fun
  | [d1, d2, d3] => { results := [.lit (.bool false)], args := [d1, d2, d3] }
  | _ => none }
def GroupMinsWrongFalsely : Prop := groupMinsRow.holds Tryd.pinned (OpenSpec.ofChange groupMinsWrong)

/- THE SECOND FORM. 'bulk': how many values and letters a reading holds, each counted each time it is reached (what is shared counts as often as it is met; a slice's spare places count too). A statement '..UptoSaid' is the law's where the arguments, and the package variables that the reading takes, are together of bulk at most 1048576: NARROWER than '..Said'. Prove '..Said' where nothing that the law and all that it calls make is longer than what came in: it says more and counts as full. Else prove '..UptoSaid'. A law counts once. -/
mutual
def uptoBulk {H : Type} : DataW H → Nat
  | .lit (.string bytes) => bytes.length + 1
  | .lit _ => 1
  | .nil => 1
  | .ptr d => uptoBulk d + 1
  | .slice elems spare => uptoBulkAll elems + uptoBulkAll spare + 1
  | .agg parts => uptoBulkAll parts + 1
  | .iface _ d => uptoBulk d + 1
  | .map entries => uptoBulkEntries entries + 1
  | .held _ => 1
def uptoBulkAll {H : Type} : List (DataW H) → Nat
  | [] => 0
  | d :: r => uptoBulk d + uptoBulkAll r
def uptoBulkEntries {H : Type} : List (Lit × DataW H) → Nat
  | [] => 0
  | x :: r => uptoBulkEntry x + uptoBulkEntries r
def uptoBulkEntry {H : Type} : Lit × DataW H → Nat
  | (.string bytes, d) => bytes.length + uptoBulk d + 1
  | (_, d) => uptoBulk d + 1
 end
def uptoSmall : (H : Type) → List (DataW H) → Bool := fun _ ds => decide (uptoBulkAll ds ≤ 1048576)
def OpenSpec.upto (s : _root_.Go.ChangeSpec) : _root_.Go.OpenSpec := { _root_.Go.OpenSpec.ofChange s with cond := some uptoSmall }

/-- 'armillarylaw9.GroupTells', WHERE WHAT IT READS IS OF BULK AT MOST 1048576: true; the input reads as it did. -/
def groupTellsUptoRow : OpenClaim := { program := "ytdnilnjlbobcmaadoor", sum := "3ff7ef9cac94c0f79330e545f49d842df7ce0fe178df1a67897154d247d193b8", func := "armillary/armillarylaw9.GroupTells", spec := "groupTells", unfollowed := true, recurses := true, named := ["armillary/word.bounds"], plainKeys := false, apart := false, laid := [("armillary/word.bounds", laid_armillary_word_bounds)], narrowed := true }
def GroupTellsUptoSaid : Prop := groupTellsUptoRow.holds Tryd.pinned (OpenSpec.upto groupTellsSpec)

/-- 'armillarylaw9.GroupKeys', WHERE WHAT IT READS IS OF BULK AT MOST 1048576: true; the input reads as it did. -/
def groupKeysUptoRow : OpenClaim := { program := "ytdnilnjlbobcmaadoor", sum := "3ff7ef9cac94c0f79330e545f49d842df7ce0fe178df1a67897154d247d193b8", func := "armillary/armillarylaw9.GroupKeys", spec := "groupKeys", unfollowed := true, recurses := true, named := ["armillary/word.bounds"], plainKeys := false, apart := false, laid := [("armillary/word.bounds", laid_armillary_word_bounds)], narrowed := true }
def GroupKeysUptoSaid : Prop := groupKeysUptoRow.holds Tryd.pinned (OpenSpec.upto groupKeysSpec)

/-- 'armillarylaw9.GroupFree', WHERE WHAT IT READS IS OF BULK AT MOST 1048576: true; the input reads as it did. -/
def groupFreeUptoRow : OpenClaim := { program := "ytdnilnjlbobcmaadoor", sum := "3ff7ef9cac94c0f79330e545f49d842df7ce0fe178df1a67897154d247d193b8", func := "armillary/armillarylaw9.GroupFree", spec := "groupFree", unfollowed := true, recurses := true, named := ["armillary/word.bounds"], plainKeys := false, apart := false, laid := [("armillary/word.bounds", laid_armillary_word_bounds)], narrowed := true }
def GroupFreeUptoSaid : Prop := groupFreeUptoRow.holds Tryd.pinned (OpenSpec.upto groupFreeSpec)

/-- 'armillarylaw9.GroupChunks', WHERE WHAT IT READS IS OF BULK AT MOST 1048576: true; the input reads as it did. -/
def groupChunksUptoRow : OpenClaim := { program := "ytdnilnjlbobcmaadoor", sum := "3ff7ef9cac94c0f79330e545f49d842df7ce0fe178df1a67897154d247d193b8", func := "armillary/armillarylaw9.GroupChunks", spec := "groupChunks", unfollowed := true, recurses := true, named := ["armillary/word.bounds"], plainKeys := false, apart := false, laid := [("armillary/word.bounds", laid_armillary_word_bounds)], narrowed := true }
def GroupChunksUptoSaid : Prop := groupChunksUptoRow.holds Tryd.pinned (OpenSpec.upto groupChunksSpec)

/-- 'armillarylaw9.GroupMins', WHERE WHAT IT READS IS OF BULK AT MOST 1048576: true; the input reads as it did. -/
def groupMinsUptoRow : OpenClaim := { program := "ytdnilnjlbobcmaadoor", sum := "3ff7ef9cac94c0f79330e545f49d842df7ce0fe178df1a67897154d247d193b8", func := "armillary/armillarylaw9.GroupMins", spec := "groupMins", unfollowed := true, recurses := true, named := ["armillary/word.bounds"], plainKeys := false, apart := false, laid := [("armillary/word.bounds", laid_armillary_word_bounds)], narrowed := true }
def GroupMinsUptoSaid : Prop := groupMinsUptoRow.holds Tryd.pinned (OpenSpec.upto groupMinsSpec)

end Rows
end Go.Proofs.YtdnilnjlbobcmaaDoor
