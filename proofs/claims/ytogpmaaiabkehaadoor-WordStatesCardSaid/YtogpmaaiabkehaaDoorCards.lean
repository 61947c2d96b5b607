/-
  DERIVED. GIVEN WITH THE SEED: THE CARDS: each row of YtogpmaaiabkehaaDoorRows.lean that lists a variable, with what it lists TIED to the program's text (the seventh form; the later family's looks); each row that meets fmt, with fmt's text TOLD by the authors' own Lean function (tested against real Go, not proved from fmt's source: count such statements apart). THE CARD IS WHAT COUNTS. Prove the row's statement (the work); the ties are given (YtogpmaaiabkehaaDoorTie.lean); close each card by the builder's one call (the guide's Derived/Test/ToyasCard.lean, 'card_holds'). Laid BY PROGRAM, IN A SANDBOX (cutbox-door.mjs). By AI agents, Wed Nov 11 2026. No macro, syntax, notation, axiom, sorry.
-/
import Derived.Test.YtogpmaaiabkehaaDoorRows
import GoSem.ClaimSeven
namespace Go.Proofs.YtogpmaaiabkehaaDoor
namespace Rows

/-- THE TIED CARD OF 'armillarylaw1.WordBack'. -/
def wordBackCard : Claim7 := { stood := { row := wordBackRow, standIns := [], harness := (true, "a6c53dd7b4530750f03b8c0b2d3fc945a352a31c0615c3deb5e681920025aae6"), looks := false }, kinds := [], alts := [], laidByText := true, laidKinds := [.data], laidTests := true, laidLooks := .later }
def WordBackCardSaid : Prop := Claim7.holds Tryd.pinned (.plain (OpenSpec.ofChange wordBackSpec)) wordBackCard

/-- THE TIED CARD OF 'armillarylaw1.WordMarks'. -/
def wordMarksCard : Claim7 := { stood := { row := wordMarksRow, standIns := [], harness := (true, "a6c53dd7b4530750f03b8c0b2d3fc945a352a31c0615c3deb5e681920025aae6"), looks := false }, kinds := [], alts := [], laidByText := true, laidKinds := [.data], laidTests := true, laidLooks := .later }
def WordMarksCardSaid : Prop := Claim7.holds Tryd.pinned (.plain (OpenSpec.ofChange wordMarksSpec)) wordMarksCard

/-- THE TIED CARD OF 'armillarylaw1.WordStates'. -/
def wordStatesCard : Claim7 := { stood := { row := wordStatesRow, standIns := [], harness := (true, "a6c53dd7b4530750f03b8c0b2d3fc945a352a31c0615c3deb5e681920025aae6"), looks := false }, kinds := [], alts := [], laidByText := true, laidKinds := [.data], laidTests := true, laidLooks := .later }
def WordStatesCardSaid : Prop := Claim7.holds Tryd.pinned (.plain (OpenSpec.ofChange wordStatesSpec)) wordStatesCard

/-- THE TIED CARD OF 'armillarylaw1.WordClaims'. -/
def wordClaimsCard : Claim7 := { stood := { row := wordClaimsRow, standIns := [], harness := (true, "a6c53dd7b4530750f03b8c0b2d3fc945a352a31c0615c3deb5e681920025aae6"), looks := false }, kinds := [], alts := [], laidByText := true, laidKinds := [.data], laidTests := true, laidLooks := .later }
def WordClaimsCardSaid : Prop := Claim7.holds Tryd.pinned (.plain (OpenSpec.ofChange wordClaimsSpec)) wordClaimsCard

/-- THE TIED CARD OF 'armillarylaw1.WordDatas'. -/
def wordDatasCard : Claim7 := { stood := { row := wordDatasRow, standIns := [], harness := (true, "a6c53dd7b4530750f03b8c0b2d3fc945a352a31c0615c3deb5e681920025aae6"), looks := false }, kinds := [], alts := [], laidByText := true, laidKinds := [.data], laidTests := true, laidLooks := .later }
def WordDatasCardSaid : Prop := Claim7.holds Tryd.pinned (.plain (OpenSpec.ofChange wordDatasSpec)) wordDatasCard

/-- THE SECOND FORM's CARD OF 'armillarylaw1.WordBack'. -/
def wordBackUptoCard : Claim7 := { stood := { row := wordBackUptoRow, standIns := [], harness := (true, "a6c53dd7b4530750f03b8c0b2d3fc945a352a31c0615c3deb5e681920025aae6"), looks := false }, kinds := [], alts := [], laidByText := true, laidKinds := [.data], laidTests := true, laidLooks := .later }
def WordBackUptoCardSaid : Prop := Claim7.holds Tryd.pinned (.plain (OpenSpec.upto wordBackSpec)) wordBackUptoCard

/-- THE SECOND FORM's CARD OF 'armillarylaw1.WordMarks'. -/
def wordMarksUptoCard : Claim7 := { stood := { row := wordMarksUptoRow, standIns := [], harness := (true, "a6c53dd7b4530750f03b8c0b2d3fc945a352a31c0615c3deb5e681920025aae6"), looks := false }, kinds := [], alts := [], laidByText := true, laidKinds := [.data], laidTests := true, laidLooks := .later }
def WordMarksUptoCardSaid : Prop := Claim7.holds Tryd.pinned (.plain (OpenSpec.upto wordMarksSpec)) wordMarksUptoCard

/-- THE SECOND FORM's CARD OF 'armillarylaw1.WordStates'. -/
def wordStatesUptoCard : Claim7 := { stood := { row := wordStatesUptoRow, standIns := [], harness := (true, "a6c53dd7b4530750f03b8c0b2d3fc945a352a31c0615c3deb5e681920025aae6"), looks := false }, kinds := [], alts := [], laidByText := true, laidKinds := [.data], laidTests := true, laidLooks := .later }
def WordStatesUptoCardSaid : Prop := Claim7.holds Tryd.pinned (.plain (OpenSpec.upto wordStatesSpec)) wordStatesUptoCard

/-- THE SECOND FORM's CARD OF 'armillarylaw1.WordClaims'. -/
def wordClaimsUptoCard : Claim7 := { stood := { row := wordClaimsUptoRow, standIns := [], harness := (true, "a6c53dd7b4530750f03b8c0b2d3fc945a352a31c0615c3deb5e681920025aae6"), looks := false }, kinds := [], alts := [], laidByText := true, laidKinds := [.data], laidTests := true, laidLooks := .later }
def WordClaimsUptoCardSaid : Prop := Claim7.holds Tryd.pinned (.plain (OpenSpec.upto wordClaimsSpec)) wordClaimsUptoCard

/-- THE SECOND FORM's CARD OF 'armillarylaw1.WordDatas'. -/
def wordDatasUptoCard : Claim7 := { stood := { row := wordDatasUptoRow, standIns := [], harness := (true, "a6c53dd7b4530750f03b8c0b2d3fc945a352a31c0615c3deb5e681920025aae6"), looks := false }, kinds := [], alts := [], laidByText := true, laidKinds := [.data], laidTests := true, laidLooks := .later }
def WordDatasUptoCardSaid : Prop := Claim7.holds Tryd.pinned (.plain (OpenSpec.upto wordDatasSpec)) wordDatasUptoCard
end Rows
end Go.Proofs.YtogpmaaiabkehaaDoor
