/-
  DERIVED. GIVEN WITH THE SEED: THE CARDS: each row of YtmdplidjkkjmmaaDoorRows.lean that lists a variable, with what it lists TIED to the program's text (the seventh form; the later family's looks); each row that meets fmt, with fmt's text TOLD by the authors' own Lean function (tested against real Go, not proved from fmt's source: count such statements apart). THE CARD IS WHAT COUNTS. Prove the row's statement (the work); the ties are given (YtmdplidjkkjmmaaDoorTie.lean); close each card by the builder's one call (the guide's Derived/Test/ToyasCard.lean, 'card_holds'). Laid BY PROGRAM, IN A SANDBOX (cutbox-door.mjs). By AI agents, Wed Nov 11 2026. No macro, syntax, notation, axiom, sorry.
-/
import Derived.Test.YtmdplidjkkjmmaaDoorRows
import GoSem.ClaimSeven
namespace Go.Proofs.YtmdplidjkkjmmaaDoor
namespace Rows

/-- THE TIED CARD OF 'armillarylaw15.CellDies'. -/
def cellDiesCard : Claim7 := { stood := { row := cellDiesRow, standIns := [], harness := (true, "7fd6060353e87177d0bfe98b6323b637aa2a5375eab42eb20990ef8ac9d2f3c6"), looks := false }, kinds := [], alts := [], laidByText := true, laidKinds := [.data], laidTests := true, laidLooks := .later }
def CellDiesCardSaid : Prop := Claim7.holds Tryd.pinned (.plain (OpenSpec.ofChange cellDiesSpec)) cellDiesCard

/-- THE TIED CARD OF 'armillarylaw15.CellFull'. -/
def cellFullCard : Claim7 := { stood := { row := cellFullRow, standIns := [], harness := (true, "7fd6060353e87177d0bfe98b6323b637aa2a5375eab42eb20990ef8ac9d2f3c6"), looks := false }, kinds := [], alts := [], laidByText := true, laidKinds := [.data], laidTests := true, laidLooks := .later }
def CellFullCardSaid : Prop := Claim7.holds Tryd.pinned (.plain (OpenSpec.ofChange cellFullSpec)) cellFullCard

/-- THE TIED CARD OF 'armillarylaw15.CellApart'. -/
def cellApartCard : Claim7 := { stood := { row := cellApartRow, standIns := [], harness := (true, "7fd6060353e87177d0bfe98b6323b637aa2a5375eab42eb20990ef8ac9d2f3c6"), looks := false }, kinds := [], alts := [], laidByText := true, laidKinds := [.data], laidTests := true, laidLooks := .later }
def CellApartCardSaid : Prop := Claim7.holds Tryd.pinned (.plain (OpenSpec.ofChange cellApartSpec)) cellApartCard

/-- THE SECOND FORM's CARD OF 'armillarylaw15.CellDies'. -/
def cellDiesUptoCard : Claim7 := { stood := { row := cellDiesUptoRow, standIns := [], harness := (true, "7fd6060353e87177d0bfe98b6323b637aa2a5375eab42eb20990ef8ac9d2f3c6"), looks := false }, kinds := [], alts := [], laidByText := true, laidKinds := [.data], laidTests := true, laidLooks := .later }
def CellDiesUptoCardSaid : Prop := Claim7.holds Tryd.pinned (.plain (OpenSpec.upto cellDiesSpec)) cellDiesUptoCard

/-- THE SECOND FORM's CARD OF 'armillarylaw15.CellFull'. -/
def cellFullUptoCard : Claim7 := { stood := { row := cellFullUptoRow, standIns := [], harness := (true, "7fd6060353e87177d0bfe98b6323b637aa2a5375eab42eb20990ef8ac9d2f3c6"), looks := false }, kinds := [], alts := [], laidByText := true, laidKinds := [.data], laidTests := true, laidLooks := .later }
def CellFullUptoCardSaid : Prop := Claim7.holds Tryd.pinned (.plain (OpenSpec.upto cellFullSpec)) cellFullUptoCard

/-- THE SECOND FORM's CARD OF 'armillarylaw15.CellApart'. -/
def cellApartUptoCard : Claim7 := { stood := { row := cellApartUptoRow, standIns := [], harness := (true, "7fd6060353e87177d0bfe98b6323b637aa2a5375eab42eb20990ef8ac9d2f3c6"), looks := false }, kinds := [], alts := [], laidByText := true, laidKinds := [.data], laidTests := true, laidLooks := .later }
def CellApartUptoCardSaid : Prop := Claim7.holds Tryd.pinned (.plain (OpenSpec.upto cellApartSpec)) cellApartUptoCard
end Rows
end Go.Proofs.YtmdplidjkkjmmaaDoor
