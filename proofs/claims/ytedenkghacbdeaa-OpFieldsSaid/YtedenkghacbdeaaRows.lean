/-
  No cell of these rows narrows 'for every input' (looked for: loops, veiled, ifaces, maps, wideKeys, modest, calm, conditions, laid).
  DERIVED. THE GIVEN ROWS OF THIS SEAT. 4 by the template 'for every input the law returns true; each argument reads behind the call as it read before'; 0 by the template 'total and deterministic' (their statements: YtedenkghacbdeaaTotals.lean).
  GIVEN WITH THE SEED: the statements are not yours to turn. If you find one false, say at which input.
  Laid BY PROGRAM, IN A SANDBOX (cutbox-rows.mjs): the forced cells as the released guide's own fill.sh prints them over the translation 74d43fec05ac1fba… (all of the seat's roots in one cut). By AI agents, Wed Nov 11 2026. No macro, syntax, notation, axiom, sorry.
-/
import Derived.Test.YtedenkghacbdeaaChecked
import GoSem.Claim
import GoSem.ClaimJoined
import GoSem.ClaimMapViews
import Derived.JoinedTies
import Derived.KernelRfl
namespace Go.Proofs.Ytedenkghacbdeaa
/- THE CELL 'sum', in the pinned program and in every row, IS THE sha256 OF THE DUMP (.gsa) THAT YtedenkghacbdeaaProg.lean LOADS. Nothing in Lean hashes anything: it is a label: what it is worth is what the hold of that sum in a sandbox is worth. -/
noncomputable def Try.pinned : Pinned := { name := "ytedenkghacbdeaa", sum := "74d43fec05ac1fba7333169a6a5bad97c1df271031a67df8489a9aba1c63b95a", checked := Try.checked }
namespace Rows
def none {H : Type} : Left H := { results := [], args := [] }

/-- 'armillarylaw4.OpNumbers': WHATEVER THE INPUT: true; the input reads as it did. -/
def opNumbersSpec : ChangeSpec := { name := "opNumbers", fn := fun _ => fun
  | [d1, d2, d3, d4] => { results := [.lit (.bool true)], args := [d1, d2, d3, d4] }
  | _ => none }
def opNumbersRow : OpenClaim := { program := "ytedenkghacbdeaa", sum := "74d43fec05ac1fba7333169a6a5bad97c1df271031a67df8489a9aba1c63b95a", func := "armillary/armillarylaw4.OpNumbers", spec := "opNumbers", inPlace := ["internal/reflectlite.TypeOf"], unfollowed := true, recurses := true, plainKeys := false, apart := false }
def OpNumbersSaid : Prop := opNumbersRow.holds Try.pinned (OpenSpec.ofChange opNumbersSpec)

/-- ITS FALSE NEIGHBOUR: 'it returns false'. Refute it at one input. -/
def opNumbersWrong : ChangeSpec := { name := "opNumbers", fn := fun _ => fun
  | [d1, d2, d3, d4] => { results := [.lit (.bool false)], args := [d1, d2, d3, d4] }
  | _ => none }
def OpNumbersWrongFalsely : Prop := opNumbersRow.holds Try.pinned (OpenSpec.ofChange opNumbersWrong)

/-- 'armillarylaw4.OpLimits': WHATEVER THE INPUT: true; the input reads as it did. -/
def opLimitsSpec : ChangeSpec := { name := "opLimits", fn := fun _ => fun
  | [d1, d2] => { results := [.lit (.bool true)], args := [d1, d2] }
  | _ => none }
def opLimitsRow : OpenClaim := { program := "ytedenkghacbdeaa", sum := "74d43fec05ac1fba7333169a6a5bad97c1df271031a67df8489a9aba1c63b95a", func := "armillary/armillarylaw4.OpLimits", spec := "opLimits", inPlace := ["internal/reflectlite.TypeOf"], unfollowed := true, recurses := true, plainKeys := false, apart := false }
def OpLimitsSaid : Prop := opLimitsRow.holds Try.pinned (OpenSpec.ofChange opLimitsSpec)

/-- ITS FALSE NEIGHBOUR: 'it returns false'. Refute it at one input. -/
def opLimitsWrong : ChangeSpec := { name := "opLimits", fn := fun _ => fun
  | [d1, d2] => { results := [.lit (.bool false)], args := [d1, d2] }
  | _ => none }
def OpLimitsWrongFalsely : Prop := opLimitsRow.holds Try.pinned (OpenSpec.ofChange opLimitsWrong)

/-- 'armillarylaw4.OpFields': WHATEVER THE INPUT: true; the input reads as it did. -/
def opFieldsSpec : ChangeSpec := { name := "opFields", fn := fun _ => fun
  | [d1, d2, d3, d4, d5] => { results := [.lit (.bool true)], args := [d1, d2, d3, d4, d5] }
  | _ => none }
def opFieldsRow : OpenClaim := { program := "ytedenkghacbdeaa", sum := "74d43fec05ac1fba7333169a6a5bad97c1df271031a67df8489a9aba1c63b95a", func := "armillary/armillarylaw4.OpFields", spec := "opFields", inPlace := ["internal/reflectlite.TypeOf"], unfollowed := true, recurses := true, plainKeys := false, apart := false }
def OpFieldsSaid : Prop := opFieldsRow.holds Try.pinned (OpenSpec.ofChange opFieldsSpec)

/-- ITS FALSE NEIGHBOUR: 'it returns false'. Refute it at one input. -/
def opFieldsWrong : ChangeSpec := { name := "opFields", fn := fun _ => fun
  | [d1, d2, d3, d4, d5] => { results := [.lit (.bool false)], args := [d1, d2, d3, d4, d5] }
  | _ => none }
def OpFieldsWrongFalsely : Prop := opFieldsRow.holds Try.pinned (OpenSpec.ofChange opFieldsWrong)

/-- 'armillarylaw4.OpScripts': WHATEVER THE INPUT: true; the input reads as it did. -/
def opScriptsSpec : ChangeSpec := { name := "opScripts", fn := fun _ => fun
  | [d1, d2, d3, d4] => { results := [.lit (.bool true)], args := [d1, d2, d3, d4] }
  | _ => none }
def opScriptsRow : OpenClaim := { program := "ytedenkghacbdeaa", sum := "74d43fec05ac1fba7333169a6a5bad97c1df271031a67df8489a9aba1c63b95a", func := "armillary/armillarylaw4.OpScripts", spec := "opScripts", inPlace := ["internal/reflectlite.TypeOf"], unfollowed := true, recurses := true, plainKeys := false, apart := false }
def OpScriptsSaid : Prop := opScriptsRow.holds Try.pinned (OpenSpec.ofChange opScriptsSpec)

/-- ITS FALSE NEIGHBOUR: 'it returns false'. Refute it at one input. -/
def opScriptsWrong : ChangeSpec := { name := "opScripts", fn := fun _ => fun
  | [d1, d2, d3, d4] => { results := [.lit (.bool false)], args := [d1, d2, d3, d4] }
  | _ => none }
def OpScriptsWrongFalsely : Prop := opScriptsRow.holds Try.pinned (OpenSpec.ofChange opScriptsWrong)

/- THE SECOND FORM. 'bulk': how many values and letters a reading holds, each counted each time it is reached (what is shared counts as often as it is met; a slice's spare places count too). A statement '..UptoSaid' is the law's where the arguments, and the package variables that the reading takes, are together of bulk at most 1048576: NARROWER than '..Said'. Prove '..Said' where nothing that the law and all that it calls make is longer than what came in: it says more and counts as full. Else prove '..UptoSaid'. A law counts once. -/
mutual
def uptoBulk {H : Type} : DataW H → Nat
  | .lit (.string bytes) => bytes.length + 1
  | .lit _ => 1
  | .nil => 1
  | .ptr d => uptoBulk d + 1
  | .slice elems spare => uptoBulkAll elems + uptoBulkAll spare + 1
  | .agg parts => uptoBulkAll parts + 1
  | .iface _ d => uptoBulk d + 1
  | .map entries => uptoBulkEntries entries + 1
  | .held _ => 1
def uptoBulkAll {H : Type} : List (DataW H) → Nat
  | [] => 0
  | d :: r => uptoBulk d + uptoBulkAll r
def uptoBulkEntries {H : Type} : List (Lit × DataW H) → Nat
  | [] => 0
  | x :: r => uptoBulkEntry x + uptoBulkEntries r
def uptoBulkEntry {H : Type} : Lit × DataW H → Nat
  | (.string bytes, d) => bytes.length + uptoBulk d + 1
  | (_, d) => uptoBulk d + 1
 end
def uptoSmall : (H : Type) → List (DataW H) → Bool := fun _ ds => decide (uptoBulkAll ds ≤ 1048576)
def OpenSpec.upto (s : _root_.Go.ChangeSpec) : _root_.Go.OpenSpec := { _root_.Go.OpenSpec.ofChange s with cond := some uptoSmall }

/-- 'armillarylaw4.OpNumbers', WHERE WHAT IT READS IS OF BULK AT MOST 1048576: true; the input reads as it did. -/
def opNumbersUptoRow : OpenClaim := { program := "ytedenkghacbdeaa", sum := "74d43fec05ac1fba7333169a6a5bad97c1df271031a67df8489a9aba1c63b95a", func := "armillary/armillarylaw4.OpNumbers", spec := "opNumbers", inPlace := ["internal/reflectlite.TypeOf"], unfollowed := true, recurses := true, plainKeys := false, apart := false, narrowed := true }
def OpNumbersUptoSaid : Prop := opNumbersUptoRow.holds Try.pinned (OpenSpec.upto opNumbersSpec)

/-- 'armillarylaw4.OpLimits', WHERE WHAT IT READS IS OF BULK AT MOST 1048576: true; the input reads as it did. -/
def opLimitsUptoRow : OpenClaim := { program := "ytedenkghacbdeaa", sum := "74d43fec05ac1fba7333169a6a5bad97c1df271031a67df8489a9aba1c63b95a", func := "armillary/armillarylaw4.OpLimits", spec := "opLimits", inPlace := ["internal/reflectlite.TypeOf"], unfollowed := true, recurses := true, plainKeys := false, apart := false, narrowed := true }
def OpLimitsUptoSaid : Prop := opLimitsUptoRow.holds Try.pinned (OpenSpec.upto opLimitsSpec)

/-- 'armillarylaw4.OpFields', WHERE WHAT IT READS IS OF BULK AT MOST 1048576: true; the input reads as it did. -/
def opFieldsUptoRow : OpenClaim := { program := "ytedenkghacbdeaa", sum := "74d43fec05ac1fba7333169a6a5bad97c1df271031a67df8489a9aba1c63b95a", func := "armillary/armillarylaw4.OpFields", spec := "opFields", inPlace := ["internal/reflectlite.TypeOf"], unfollowed := true, recurses := true, plainKeys := false, apart := false, narrowed := true }
def OpFieldsUptoSaid : Prop := opFieldsUptoRow.holds Try.pinned (OpenSpec.upto opFieldsSpec)

/-- 'armillarylaw4.OpScripts', WHERE WHAT IT READS IS OF BULK AT MOST 1048576: true; the input reads as it did. -/
def opScriptsUptoRow : OpenClaim := { program := "ytedenkghacbdeaa", sum := "74d43fec05ac1fba7333169a6a5bad97c1df271031a67df8489a9aba1c63b95a", func := "armillary/armillarylaw4.OpScripts", spec := "opScripts", inPlace := ["internal/reflectlite.TypeOf"], unfollowed := true, recurses := true, plainKeys := false, apart := false, narrowed := true }
def OpScriptsUptoSaid : Prop := opScriptsUptoRow.holds Try.pinned (OpenSpec.upto opScriptsSpec)

end Rows
end Go.Proofs.Ytedenkghacbdeaa
