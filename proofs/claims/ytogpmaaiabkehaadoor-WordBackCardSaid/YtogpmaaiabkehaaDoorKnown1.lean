/- The examples that every statement of layer 1 opens with all hold: 'known' returns true, in any world in which the table of bounds holds what it is laid with. -/
import Derived.Test.YtogpmaaiabkehaaDoorWord
namespace Go.Proofs.YtogpmaaiabkehaaDoor.Word
open Go.RowKit
set_option maxHeartbeats 1000000 in
theorem known_true (w : World) (t : Tab w) : Calls Tryd.prog 8 #[] w fun e w' => e = .returned (.bool true) ∧ Dr w w' := by
  have e1 : nextI 5 true = 11 := by decide
  have e2 : un 11 / 2 = 5 := by decide
  have e3 : markB 11 = true := by decide
  have e4 : markB 10 = false := by decide
  have e5 : stateI 4 = 7 := by decide
  have e6 : versionI 7 = 4 := by decide
  have e7 : versionI 2 = -1 := by decide
  have e8 : claimI 3 9 = 50331657 := by decide
  have e9 : un 50331657 / 16777216 = 3 := by decide
  have e10 : dataI 7 (-1) = 14680064 := by decide
  have e11 : un 14680070 / 2097152 = 7 := by decide
  go_enter Tryd.func8, Tryd.ntmps8
  go_wp2_with (first | (go_at_call 9; refine (next_any _ _ _ (by exact t)).mono ?_; rintro e w' ⟨rfl, m, rfl⟩) | (go_at_call 12; refine (at_any _ _).mono ?_; rintro e w' ⟨rfl, rfl⟩) | (go_at_call 13; refine (marked_any _ _).mono ?_; rintro e w' ⟨rfl, rfl⟩) | (go_at_call 15; refine (state_any _ _ (by exact t)).mono ?_; rintro e w' ⟨rfl, m, rfl⟩) | (go_at_call 14; refine (version_any _ _ (by decide)).mono ?_; rintro e w' ⟨rfl, rfl⟩) | (go_at_call 10; refine (claim_any _ _ _ (by exact t)).mono ?_; rintro e w' ⟨rfl, m, rfl⟩) | (go_at_call 16; refine (seq_any _ _).mono ?_; rintro e w' ⟨rfl, rfl⟩) | (go_at_call 17; refine (part_any _ _).mono ?_; rintro e w' ⟨rfl, rfl⟩) | (go_at_call 11; refine (data_any _ _ _ (by exact t)).mono ?_; rintro e w' ⟨rfl, m, rfl⟩) | (go_at_call 18; refine (writer_any _ _).mono ?_; rintro e w' ⟨rfl, rfl⟩) | (go_at_call 19; refine (val_any _ _).mono ?_; rintro e w' ⟨rfl, rfl⟩))
  go_ret
  exact ⟨rfl, _, rfl⟩
end Go.Proofs.YtogpmaaiabkehaaDoor.Word
