/- Package armillaryref1's arena: what each function answers, and what becomes of it: the same as package arena's. -/
import Derived.Test.YteahponbknljlaaArena
namespace Go.Proofs.Yteahponbknljlaa.Ref
open Go.RowKit Go.Proofs.Yteahponbknljlaa.Ar
def rarHead (s : St) (q cap : Nat) : Array Value :=
  #[.slice (some ⟨q, 0, none⟩) s.l.length cap, .int .i64 s.n, .int .i64 s.a.kind, .int .i64 s.a.at_, .int .i64 s.a.old, .int .i64 s.a.new, .bool s.a.ok]
theorem intInfo : (Try.prog.info? 3).map (fun i => (i.zero, i.size, i.bytes)) = some (some (.int .i64 0), 1, 8) := by kernel_rfl
end Go.Proofs.Yteahponbknljlaa.Ref
