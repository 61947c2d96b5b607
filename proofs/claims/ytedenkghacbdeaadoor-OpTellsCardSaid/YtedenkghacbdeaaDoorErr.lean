/- Errors that are numbers of type api.Errno: errors.Is and errors.As of them, by contracts. (Go's own text of errors.Is, errors.is, errors.As is walked.) -/
import Derived.Test.YtedenkghacbdeaaDoorFr
import Derived.Stop.IfaceNil
import Derived.Stop.Asserts
import Derived.Lib.IfaceEq
import Derived.LaidEql
import Derived.RowKitTokens
namespace Go.Proofs.YtedenkghacbdeaaDoor.Er
open Go.RowKit Go.Extern.Stop Go.Stop Go.Extern Go.Proofs.YtedenkghacbdeaaDoor.Ar
theorem isE : Tryd.prog.isIface 38 = true := by kernel_rfl
theorem typeOfE (v : Value) (w : World) : (Extern.ReflectliteType.typeOf #[.iface 47 v]).run Tryd.prog w = .ok (.iface 84 (.agg #[.pointer (some ⟨1, 47, none⟩)])) w := by kernel_rfl
theorem comparableE (w : World) : ((Extern.ReflectliteType.method fun t => do Extern.Rtype.noPackHeld "Comparable" t; (fun a => Value.bool a.comparable) <$> typeInfo t) #[.agg #[.pointer (some ⟨1, 47, none⟩)]]).run Tryd.prog w = .ok (.bool true) w := by kernel_rfl
theorem noIs (v : Value) (xT : TypeId) (w : World) : (Instr.typeAssert (.iface 47 v) xT 86 true).run Tryd.prog w = .ok (.tuple #[.nilIface, .bool false]) w := run_typeAssert_lacksB Tryd.underlying86 (by kernel_rfl) (by kernel_rfl) v xT w
theorem noUnwrap (v : Value) (xT : TypeId) (w : World) : (Instr.typeAssert (.iface 47 v) xT 89 true).run Tryd.prog w = .ok (.tuple #[.nilIface, .bool false]) w := run_typeAssert_lacksB Tryd.underlying89 (by kernel_rfl) (by kernel_rfl) v xT w
theorem noUnwraps (v : Value) (xT : TypeId) (w : World) : (Instr.typeAssert (.iface 47 v) xT 91 true).run Tryd.prog w = .ok (.tuple #[.nilIface, .bool false]) w := run_typeAssert_lacksB Tryd.underlying91 (by kernel_rfl) (by kernel_rfl) v xT w
/-- errors.Is of two such numbers. -/
theorem is_same (a : Int) (w : World) :
    Calls Tryd.prog 19 #[.iface 47 (.int .i64 a), .iface 47 (.int .i64 a)] w fun e w' => e = .returned (.bool true) ∧ w = w' := by
  have h8 := @run_callFunc_extern Tryd.prog 33 _ Extern.ReflectliteType.typeOf Tryd.func33 (by kernel_rfl) (by kernel_rfl) (by kernel_rfl) (by kernel_rfl)
  have h32 := @run_callFunc_extern Tryd.prog 79 _ (Extern.ReflectliteType.method fun t => do Extern.Rtype.noPackHeld "Comparable" t; pure (.bool (← typeInfo t).comparable)) Tryd.func79 (by kernel_rfl) (by kernel_rfl) (by kernel_rfl) (by kernel_rfl)
  have tT := typeOfE
  have cT := comparableE
  have iE := isE
  have heq := fun (W : World) => Lib.run_eql_iface_int (P := Tryd.prog) W (k := .i64) a a Tryd.underlying38 (by kernel_rfl) Tryd.underlying47
  simp only [beq_self_eq_true] at heq
  go_enter Tryd.func19, Tryd.ntmps19
  go_wp2
  go_rounds 1
  go_ret
  exact ⟨rfl, rfl⟩
end Go.Proofs.YtedenkghacbdeaaDoor.Er
