/- Texts that this proof leans on, one behind the other: Err. -/
import Derived.Test.YtofanejchncepaaDoorQaa
import Derived.LaidEql
import Derived.Lib.IfaceEq
import Derived.RowKitTokens
import Derived.Stop.Asserts
import Derived.Stop.IfaceNil
set_option linter.unusedVariables false
set_option linter.unusedSimpArgs false
set_option maxRecDepth 100000
set_option maxHeartbeats 12800000
namespace Go.Proofs.YtofanejchncepaaDoor.Er
open Go.RowKit Go.Extern.Stop Go.Stop Go.Extern Go.Proofs.YtofanejchncepaaDoor.Ar
theorem isE:Tryd.prog.isIface 39=true:=by kernel_rfl
theorem typeOfE (v:Value) (w:World):(Extern.ReflectliteType.typeOf #[.iface 61 v]).run Tryd.prog w = .ok (.iface 109 (.agg #[.pointer (some ⟨2,61,none⟩)])) w:=by kernel_rfl
theorem comparableE (w : World) : ((Extern.ReflectliteType.method fun t => do Extern.Rtype.noPackHeld "Comparable" t; (fun a => Value.bool a.comparable) <$> typeInfo t) #[.agg #[.pointer (some ⟨2, 61, none⟩)]]).run Tryd.prog w = .ok (.bool true) w := by kernel_rfl
theorem is_same (a:Int) (w:World) :
  Calls Tryd.prog 25 #[.iface 61 (.int .i64 a),.iface 61 (.int .i64 a)] w fun e w'=>e = .returned (.bool true)∧w=w':=by
 have h8:=@run_callFunc_extern Tryd.prog 44 _ Extern.ReflectliteType.typeOf Tryd.func44 Bm Bm Bm Bm;have h32 := @run_callFunc_extern Tryd.prog 123 _ (Extern.ReflectliteType.method fun t => do Extern.Rtype.noPackHeld "Comparable" t; pure (.bool (← typeInfo t).comparable)) Tryd.func123 Bm Bm Bm Bm;have tT:=typeOfE;have cT:=comparableE;have iE:=isE;have heq:=fun (W:World)=>Lib.run_eql_iface_int (P:=Tryd.prog) W (k:=.i64) a a Tryd.underlying39 Bm Tryd.underlying61
 simp only [beq_self_eq_true] at heq;go_enter Tryd.func25,Tryd.ntmps25;go_wp2;go_rounds 1;go_ret;exact ⟨rfl,rfl⟩
end Go.Proofs.YtofanejchncepaaDoor.Er
