/- Errors that are numbers of type api.Errno: errors.Is and errors.As of them, by contracts. (Go's own text of errors.Is, errors.is, errors.As is walked.) -/
import Derived.Test.YtfchbbhopfganaaFr
import Derived.Stop.IfaceNil
import Derived.Stop.Asserts
import Derived.Lib.IfaceEq
import Derived.LaidEql
import Derived.RowKitTokens
namespace Go.Proofs.Ytfchbbhopfganaa.Er
open Go.RowKit Go.Extern.Stop Go.Stop Go.Extern Go.Proofs.Ytfchbbhopfganaa.Ar
theorem isE : Try.prog.isIface 29 = true := by kernel_rfl
theorem comparableE (w : World) : ((Extern.ReflectliteType.method fun t => do Extern.Rtype.noPackHeld "Comparable" t; (fun a => Value.bool a.comparable) <$> typeInfo t) #[.agg #[.pointer (some ⟨0, 62, none⟩)]]).run Try.prog w = .ok (.bool true) w := by kernel_rfl
end Go.Proofs.Ytfchbbhopfganaa.Er
