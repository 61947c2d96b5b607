/- Errors that are numbers of type api.Errno: errors.Is and errors.As of them, by contracts. (Go's own text of errors.Is, errors.is, errors.As is walked.) -/
import Derived.Test.YtkdnppehlnmlgaaFr
import Derived.Stop.IfaceNil
import Derived.Stop.Asserts
import Derived.Lib.IfaceEq
import Derived.LaidEql
import Derived.RowKitTokens
namespace Go.Proofs.Ytkdnppehlnmlgaa.Er
open Go.RowKit Go.Extern.Stop Go.Stop Go.Extern Go.Proofs.Ytkdnppehlnmlgaa.Ar
theorem isE : Try.prog.isIface 42 = true := by kernel_rfl
theorem typeOfE (v : Value) (w : World) : (Extern.ReflectliteType.typeOf #[.iface 50 v]).run Try.prog w = .ok (.iface 82 (.agg #[.pointer (some ⟨0, 50, none⟩)])) w := by kernel_rfl
theorem comparableE (w : World) : ((Extern.ReflectliteType.method fun t => do Extern.Rtype.noPackHeld "Comparable" t; (fun a => Value.bool a.comparable) <$> typeInfo t) #[.agg #[.pointer (some ⟨0, 50, none⟩)]]).run Try.prog w = .ok (.bool true) w := by kernel_rfl
theorem noIs (v : Value) (xT : TypeId) (w : World) : (Instr.typeAssert (.iface 50 v) xT 84 true).run Try.prog w = .ok (.tuple #[.nilIface, .bool false]) w := run_typeAssert_lacksB Try.underlying84 (by kernel_rfl) (by kernel_rfl) v xT w
theorem noUnwrap (v : Value) (xT : TypeId) (w : World) : (Instr.typeAssert (.iface 50 v) xT 87 true).run Try.prog w = .ok (.tuple #[.nilIface, .bool false]) w := run_typeAssert_lacksB Try.underlying87 (by kernel_rfl) (by kernel_rfl) v xT w
theorem noUnwraps (v : Value) (xT : TypeId) (w : World) : (Instr.typeAssert (.iface 50 v) xT 89 true).run Try.prog w = .ok (.tuple #[.nilIface, .bool false]) w := run_typeAssert_lacksB Try.underlying89 (by kernel_rfl) (by kernel_rfl) v xT w
/-- errors.Is of two such numbers. -/
theorem is_same (a : Int) (w : World) :
    Calls Try.prog 14 #[.iface 50 (.int .i64 a), .iface 50 (.int .i64 a)] w fun e w' => e = .returned (.bool true) ∧ w = w' := by
  have h8 := @run_callFunc_extern Try.prog 29 _ Extern.ReflectliteType.typeOf Try.func29 (by kernel_rfl) (by kernel_rfl) (by kernel_rfl) (by kernel_rfl)
  have h32 := @run_callFunc_extern Try.prog 57 _ (Extern.ReflectliteType.method fun t => do Extern.Rtype.noPackHeld "Comparable" t; pure (.bool (← typeInfo t).comparable)) Try.func57 (by kernel_rfl) (by kernel_rfl) (by kernel_rfl) (by kernel_rfl)
  have tT := typeOfE
  have cT := comparableE
  have iE := isE
  have heq := fun (W : World) => Lib.run_eql_iface_int (P := Try.prog) W (k := .i64) a a Try.underlying42 (by kernel_rfl) Try.underlying50
  simp only [beq_self_eq_true] at heq
  go_enter Try.func14, Try.ntmps14
  go_wp2
  go_rounds 1
  go_ret
  exact ⟨rfl, rfl⟩
end Go.Proofs.Ytkdnppehlnmlgaa.Er
