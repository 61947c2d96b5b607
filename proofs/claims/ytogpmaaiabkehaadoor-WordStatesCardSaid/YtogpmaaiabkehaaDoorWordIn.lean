/- What each function of package word answers to arguments within their bounds, in plain sums (a contract each). -/
import Derived.Test.YtogpmaaiabkehaaDoorWord
namespace Go.Proofs.YtogpmaaiabkehaaDoor.Word
open Go.RowKit
theorem conv {P : Program} {f : FuncId} {args : Array Value} {w : World} {a b : Int} (h : Calls P f args w fun e w' => e = .returned (.int .i64 a) ∧ Dr w w') (e : a = b) : Calls P f args w fun e w' => e = .returned (.int .i64 b) ∧ Dr w w' := by
  rw [← e]; exact h
theorem convs {P : Program} {f : FuncId} {args : Array Value} {w : World} {a b : Int} (h : Calls P f args w fun e w' => e = .returned (.int .i64 a) ∧ w' = w) (e : a = b) : Calls P f args w fun e w' => e = .returned (.int .i64 b) ∧ w' = w := by
  rw [← e]; exact h
theorem convb {P : Program} {f : FuncId} {args : Array Value} {w : World} {a b : Bool} (h : Calls P f args w fun e w' => e = .returned (.bool a) ∧ w' = w) (e : a = b) : Calls P f args w fun e w' => e = .returned (.bool b) ∧ w' = w := by
  rw [← e]; exact h
theorem next_f (p : Int) (w : World) (t : Tab w) (h0 : 0 ≤ p) (h1 : p ≤ 1073741824) : Calls Tryd.prog 9 #[.int .i64 p, .bool false] w fun e w' => e = .returned (.int .i64 (p * 2)) ∧ Dr w w' :=
  conv (next_any p false w t) (by simp [nextI, bit, heldI_in h0 h1])
theorem next_t (p : Int) (w : World) (t : Tab w) (h0 : 0 ≤ p) (h1 : p ≤ 1073741824) : Calls Tryd.prog 9 #[.int .i64 p, .bool true] w fun e w' => e = .returned (.int .i64 (p * 2 + 1)) ∧ Dr w w' :=
  conv (next_any p true w t) (by simp [nextI, bit, heldI_in h0 h1])
theorem state_in (p : Int) (w : World) (t : Tab w) (h0 : 0 ≤ p) (h1 : p ≤ 16777212) : Calls Tryd.prog 15 #[.int .i64 p] w fun e w' => e = .returned (.int .i64 (p + 3)) ∧ Dr w w' :=
  conv (state_any p w t) (by simp [stateI, heldI_in h0 h1])
theorem version_in (s : Int) (w : World) (h0 : 3 ≤ s) (h1 : s ≤ 9223372036854775807) : Calls Tryd.prog 14 #[.int .i64 s] w fun e w' => e = .returned (.int .i64 (s - 3)) ∧ w' = w :=
  convs (version_any s w h1) (by unfold versionI; rw [if_neg (by omega)])
theorem version_no (s : Int) (w : World) (h0 : s < 3) : Calls Tryd.prog 14 #[.int .i64 s] w fun e w' => e = .returned (.int .i64 (-1)) ∧ w' = w :=
  convs (version_any s w (by omega)) (by unfold versionI; rw [if_pos h0])
theorem claim_in (s p : Int) (w : World) (t : Tab w) (h0 : 0 ≤ s) (h1 : s ≤ 1073741824) (h2 : 0 ≤ p) (h3 : p ≤ 16777212) : Calls Tryd.prog 10 #[.int .i64 s, .int .i64 p] w fun e w' => e = .returned (.int .i64 (s * 16777216 + p)) ∧ Dr w w' :=
  conv (claim_any s p w t) (by simp [claimI, heldI_in h0 h1, heldI_in h2 h3])
theorem data_in (s p : Int) (w : World) (t : Tab w) (h0 : 0 ≤ s) (h1 : s ≤ 1048576) (h2 : -1 ≤ p) (h3 : p ≤ 1048576) : Calls Tryd.prog 11 #[.int .i64 s, .int .i64 p] w fun e w' => e = .returned (.int .i64 (s * 2097152 + (p + 1))) ∧ Dr w w' :=
  conv (data_any s p w t) (by simp [dataI, heldI_in h0 h1, heldI_in h2 h3])
theorem at_in (a : Int) (w : World) (h0 : 0 ≤ a) (h1 : a ≤ 9223372036854775807) : Calls Tryd.prog 12 #[.int .i64 a] w fun e w' => e = .returned (.int .i64 (a / 2)) ∧ w' = w :=
  convs (at_any a w) (by rw [un_in h0 h1])
theorem seq_in (a : Int) (w : World) (h0 : 0 ≤ a) (h1 : a ≤ 9223372036854775807) : Calls Tryd.prog 16 #[.int .i64 a] w fun e w' => e = .returned (.int .i64 (a / 16777216)) ∧ w' = w :=
  convs (seq_any a w) (by rw [un_in h0 h1])
theorem writer_in (a : Int) (w : World) (h0 : 0 ≤ a) (h1 : a ≤ 9223372036854775807) : Calls Tryd.prog 18 #[.int .i64 a] w fun e w' => e = .returned (.int .i64 (a / 2097152)) ∧ w' = w :=
  convs (writer_any a w) (by rw [un_in h0 h1])
theorem marked_t (a : Int) (w : World) (h : a % 2 = 1) : Calls Tryd.prog 13 #[.int .i64 a] w fun e w' => e = .returned (.bool true) ∧ w' = w :=
  convb (marked_any a w) (by simp [markB, h])
theorem marked_f (a : Int) (w : World) (h : a % 2 = 0) : Calls Tryd.prog 13 #[.int .i64 a] w fun e w' => e = .returned (.bool false) ∧ w' = w :=
  convb (marked_any a w) (by simp [markB, h])
end Go.Proofs.YtogpmaaiabkehaaDoor.Word
