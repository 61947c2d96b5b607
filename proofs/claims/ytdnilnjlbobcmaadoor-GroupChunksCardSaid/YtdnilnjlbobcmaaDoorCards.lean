/-
  DERIVED. GIVEN WITH THE SEED: THE CARDS: each row of YtdnilnjlbobcmaaDoorRows.lean that lists a variable, with what it lists TIED to the program's text (the seventh form; the later family's looks); each row that meets fmt, with fmt's text TOLD by the authors' own Lean function (tested against real Go, not proved from fmt's source: count such statements apart). THE CARD IS WHAT COUNTS. Prove the row's statement (the work); the ties are given (YtdnilnjlbobcmaaDoorTie.lean); close each card by the builder's one call (the guide's Derived/Test/ToyasCard.lean, 'card_holds'). Laid BY PROGRAM, IN A SANDBOX (cutbox-door.mjs). By AI agents, Wed Nov 11 2026. No macro, syntax, notation, axiom, sorry.
-/
import Derived.Test.YtdnilnjlbobcmaaDoorRows
import GoSem.ClaimSeven
namespace Go.Proofs.YtdnilnjlbobcmaaDoor
namespace Rows

/-- THE TIED CARD OF 'armillarylaw9.GroupTells'. -/
def groupTellsCard : Claim7 := { stood := { row := groupTellsRow, standIns := [], harness := (true, "15512be00aed10b82037c62157f8cfecdabbbbdc6c55f456f53398a67ec9bb67"), looks := false }, kinds := [], alts := [], laidByText := true, laidKinds := [.data], laidTests := true, laidLooks := .later }
def GroupTellsCardSaid : Prop := Claim7.holds Tryd.pinned (.plain (OpenSpec.ofChange groupTellsSpec)) groupTellsCard

/-- THE TIED CARD OF 'armillarylaw9.GroupKeys'. -/
def groupKeysCard : Claim7 := { stood := { row := groupKeysRow, standIns := [], harness := (true, "15512be00aed10b82037c62157f8cfecdabbbbdc6c55f456f53398a67ec9bb67"), looks := false }, kinds := [], alts := [], laidByText := true, laidKinds := [.data], laidTests := true, laidLooks := .later }
def GroupKeysCardSaid : Prop := Claim7.holds Tryd.pinned (.plain (OpenSpec.ofChange groupKeysSpec)) groupKeysCard

/-- THE TIED CARD OF 'armillarylaw9.GroupFree'. -/
def groupFreeCard : Claim7 := { stood := { row := groupFreeRow, standIns := [], harness := (true, "15512be00aed10b82037c62157f8cfecdabbbbdc6c55f456f53398a67ec9bb67"), looks := false }, kinds := [], alts := [], laidByText := true, laidKinds := [.data], laidTests := true, laidLooks := .later }
def GroupFreeCardSaid : Prop := Claim7.holds Tryd.pinned (.plain (OpenSpec.ofChange groupFreeSpec)) groupFreeCard

/-- THE TIED CARD OF 'armillarylaw9.GroupChunks'. -/
def groupChunksCard : Claim7 := { stood := { row := groupChunksRow, standIns := [], harness := (true, "15512be00aed10b82037c62157f8cfecdabbbbdc6c55f456f53398a67ec9bb67"), looks := false }, kinds := [], alts := [], laidByText := true, laidKinds := [.data], laidTests := true, laidLooks := .later }
def GroupChunksCardSaid : Prop := Claim7.holds Tryd.pinned (.plain (OpenSpec.ofChange groupChunksSpec)) groupChunksCard

/-- THE TIED CARD OF 'armillarylaw9.GroupMins'. -/
def groupMinsCard : Claim7 := { stood := { row := groupMinsRow, standIns := [], harness := (true, "15512be00aed10b82037c62157f8cfecdabbbbdc6c55f456f53398a67ec9bb67"), looks := false }, kinds := [], alts := [], laidByText := true, laidKinds := [.data], laidTests := true, laidLooks := .later }
def GroupMinsCardSaid : Prop := Claim7.holds Tryd.pinned (.plain (OpenSpec.ofChange groupMinsSpec)) groupMinsCard

/-- THE SECOND FORM's CARD OF 'armillarylaw9.GroupTells'. -/
def groupTellsUptoCard : Claim7 := { stood := { row := groupTellsUptoRow, standIns := [], harness := (true, "15512be00aed10b82037c62157f8cfecdabbbbdc6c55f456f53398a67ec9bb67"), looks := false }, kinds := [], alts := [], laidByText := true, laidKinds := [.data], laidTests := true, laidLooks := .later }
def GroupTellsUptoCardSaid : Prop := Claim7.holds Tryd.pinned (.plain (OpenSpec.upto groupTellsSpec)) groupTellsUptoCard

/-- THE SECOND FORM's CARD OF 'armillarylaw9.GroupKeys'. -/
def groupKeysUptoCard : Claim7 := { stood := { row := groupKeysUptoRow, standIns := [], harness := (true, "15512be00aed10b82037c62157f8cfecdabbbbdc6c55f456f53398a67ec9bb67"), looks := false }, kinds := [], alts := [], laidByText := true, laidKinds := [.data], laidTests := true, laidLooks := .later }
def GroupKeysUptoCardSaid : Prop := Claim7.holds Tryd.pinned (.plain (OpenSpec.upto groupKeysSpec)) groupKeysUptoCard

/-- THE SECOND FORM's CARD OF 'armillarylaw9.GroupFree'. -/
def groupFreeUptoCard : Claim7 := { stood := { row := groupFreeUptoRow, standIns := [], harness := (true, "15512be00aed10b82037c62157f8cfecdabbbbdc6c55f456f53398a67ec9bb67"), looks := false }, kinds := [], alts := [], laidByText := true, laidKinds := [.data], laidTests := true, laidLooks := .later }
def GroupFreeUptoCardSaid : Prop := Claim7.holds Tryd.pinned (.plain (OpenSpec.upto groupFreeSpec)) groupFreeUptoCard

/-- THE SECOND FORM's CARD OF 'armillarylaw9.GroupChunks'. -/
def groupChunksUptoCard : Claim7 := { stood := { row := groupChunksUptoRow, standIns := [], harness := (true, "15512be00aed10b82037c62157f8cfecdabbbbdc6c55f456f53398a67ec9bb67"), looks := false }, kinds := [], alts := [], laidByText := true, laidKinds := [.data], laidTests := true, laidLooks := .later }
def GroupChunksUptoCardSaid : Prop := Claim7.holds Tryd.pinned (.plain (OpenSpec.upto groupChunksSpec)) groupChunksUptoCard

/-- THE SECOND FORM's CARD OF 'armillarylaw9.GroupMins'. -/
def groupMinsUptoCard : Claim7 := { stood := { row := groupMinsUptoRow, standIns := [], harness := (true, "15512be00aed10b82037c62157f8cfecdabbbbdc6c55f456f53398a67ec9bb67"), looks := false }, kinds := [], alts := [], laidByText := true, laidKinds := [.data], laidTests := true, laidLooks := .later }
def GroupMinsUptoCardSaid : Prop := Claim7.holds Tryd.pinned (.plain (OpenSpec.upto groupMinsSpec)) groupMinsUptoCard
end Rows
end Go.Proofs.YtdnilnjlbobcmaaDoor
