/- Errors that are numbers of type api.Errno: errors.Is and errors.As of them, by contracts. (Go's own text of errors.Is, errors.is, errors.As is walked.) -/
import Derived.Test.YtafmcilonpkpbaaDoorFr
import Derived.Stop.IfaceNil
import Derived.Stop.Asserts
import Derived.Lib.IfaceEq
import Derived.LaidEql
import Derived.RowKitTokens
namespace Go.Proofs.YtafmcilonpkpbaaDoor.Er
open Go.RowKit Go.Extern.Stop Go.Stop Go.Extern Go.Proofs.YtafmcilonpkpbaaDoor.Ar
theorem isE : Tryd.prog.isIface 27 = true := by kernel_rfl
theorem typeOfE (v : Value) (w : World) : (Extern.ReflectliteType.typeOf #[.iface 42 v]).run Tryd.prog w = .ok (.iface 82 (.agg #[.pointer (some ⟨1, 42, none⟩)])) w := by kernel_rfl
theorem comparableE (w : World) : ((Extern.ReflectliteType.method fun t => do Extern.Rtype.noPackHeld "Comparable" t; (fun a => Value.bool a.comparable) <$> typeInfo t) #[.agg #[.pointer (some ⟨1, 42, none⟩)]]).run Tryd.prog w = .ok (.bool true) w := by kernel_rfl
theorem noIs (v : Value) (xT : TypeId) (w : World) : (Instr.typeAssert (.iface 42 v) xT 84 true).run Tryd.prog w = .ok (.tuple #[.nilIface, .bool false]) w := run_typeAssert_lacksB Tryd.underlying84 (by kernel_rfl) (by kernel_rfl) v xT w
theorem noUnwrap (v : Value) (xT : TypeId) (w : World) : (Instr.typeAssert (.iface 42 v) xT 87 true).run Tryd.prog w = .ok (.tuple #[.nilIface, .bool false]) w := run_typeAssert_lacksB Tryd.underlying87 (by kernel_rfl) (by kernel_rfl) v xT w
theorem noUnwraps (v : Value) (xT : TypeId) (w : World) : (Instr.typeAssert (.iface 42 v) xT 89 true).run Tryd.prog w = .ok (.tuple #[.nilIface, .bool false]) w := run_typeAssert_lacksB Tryd.underlying89 (by kernel_rfl) (by kernel_rfl) v xT w
/-- errors.Is of two such numbers. -/
theorem is_same (a : Int) (w : World) :
    Calls Tryd.prog 26 #[.iface 42 (.int .i64 a), .iface 42 (.int .i64 a)] w fun e w' => e = .returned (.bool true) ∧ w = w' := by
  have h8 := @run_callFunc_extern Tryd.prog 40 _ Extern.ReflectliteType.typeOf Tryd.func40 (by kernel_rfl) (by kernel_rfl) (by kernel_rfl) (by kernel_rfl)
  have h32 := @run_callFunc_extern Tryd.prog 75 _ (Extern.ReflectliteType.method fun t => do Extern.Rtype.noPackHeld "Comparable" t; pure (.bool (← typeInfo t).comparable)) Tryd.func75 (by kernel_rfl) (by kernel_rfl) (by kernel_rfl) (by kernel_rfl)
  have tT := typeOfE
  have cT := comparableE
  have iE := isE
  have heq := fun (W : World) => Lib.run_eql_iface_int (P := Tryd.prog) W (k := .i64) a a Tryd.underlying27 (by kernel_rfl) Tryd.underlying42
  simp only [beq_self_eq_true] at heq
  go_enter Tryd.func26, Tryd.ntmps26
  go_wp2
  go_rounds 1
  go_ret
  exact ⟨rfl, rfl⟩
end Go.Proofs.YtafmcilonpkpbaaDoor.Er
