/- ModelScans over the developers' map. -/
import Derived.Test.YtjhgjpkiinkaeaaLaws5
import Derived.Test.YtjhgjpkiinkaeaaScans5
namespace Go.Proofs.Ytjhgjpkiinkaeaa.Mp
open Go.RowKit Go.Proofs.Ytjhgjpkiinkaeaa.Ar Go.Proofs.Ytjhgjpkiinkaeaa.Og
theorem scans_recs (len : Nat) (V : Nat → Nat → Value) (lo hi mid : Int) (v : Value) (w : World) (ho : Law.Recs w 4 v len V) (hV : ∀ i, i < len → ∀ j, j < 4 → ∃ x : Int, V i j = .int .i64 x ∧ (Lit.int .i64 x).wf = true) (h1 : 0 ≤ lo ∧ lo < 256) (h2 : 0 ≤ hi ∧ hi < 256) (h3 : 0 ≤ mid ∧ mid < 256) :
    Calls Try.prog 5 #[v, .int .u8 lo, .int .u8 hi, .int .u8 mid] w fun e w' => e = .returned (.bool true) ∧ Fr [] w w' := by
  obtain ⟨os, h⟩ := ops_row ho hV
  exact scans_true mapC os lo hi mid v w h h1 h2 h3
end Go.Proofs.Ytjhgjpkiinkaeaa.Mp
