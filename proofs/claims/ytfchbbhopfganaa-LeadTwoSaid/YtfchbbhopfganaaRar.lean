/- Package armillaryref1's arena: what each function answers, and what becomes of it: the same as package arena's. -/
import Derived.Test.YtfchbbhopfganaaArena
namespace Go.Proofs.Ytfchbbhopfganaa.Ref
open Go.RowKit Go.Proofs.Ytfchbbhopfganaa.Ar
def rarHead (s : St) (q cap : Nat) : Array Value :=
  #[.slice (some ⟨q, 0, none⟩) s.l.length cap, .int .i64 s.n, .int .i64 s.a.kind, .int .i64 s.a.at_, .int .i64 s.a.old, .int .i64 s.a.new, .bool s.a.ok]
theorem intInfo : (Try.prog.info? 3).map (fun i => (i.zero, i.size, i.bytes)) = some (some (.int .i64 0), 1, 8) := by kernel_rfl
theorem held_any (n : Nat) (i : Int) (hn : (i < 1 ∧ n = 1) ∨ (1 ≤ i ∧ i ≤ 20000 ∧ i = n) ∨ (20000 < i ∧ n = 20000)) (w : World) :
    Calls Try.prog 21 #[.int .i64 i, .int .i64 1, .int .i64 20000] w fun e w' => e = .returned (.int .i64 n) ∧ w = w' := by
  rcases hn with ⟨h1, rfl⟩ | ⟨h1, h2, rfl⟩ | ⟨h1, rfl⟩
  all_goals
    go_enter Try.func21, Try.ntmps21
    go_wp2
    all_goals go_ret
    all_goals (first | exact ⟨rfl, rfl⟩ | exact ret_int (by omega))
end Go.Proofs.Ytfchbbhopfganaa.Ref
