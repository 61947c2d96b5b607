/- errors.As with a target of type *api.Errno: Go's own text of errors.As and errors.as is walked. -/
import Derived.Test.YthokjbikomjhgaaGreatDoorVac
namespace Go.Proofs.YthokjbikomjhgaaGreatDoor.Er
open Go.RowKit Go.Extern.Stop Go.Stop Go.Extern Ar
theorem valueOfT (t:Addr) (w:World):(ReflectliteValue.unpack (.iface 188 (.pointer (some t)))).run Tryz.prog w
  = .ok (.agg #[.pointer (some ⟨3,188,none⟩),.pointer (some ⟨w.heap.size,0,none⟩),.int .u64 150]) (w.alloc (.cells #[.pointer (some t)] 188)):=by kernel_rfl
theorem typeT (a : Addr) (w : World) : (ReflectliteValue.methodAny (ReflectliteValue.valueError "reflectlite.Value.Type" 0) (fun t _ _ _ => ReflectliteType.toType t) #[.agg #[.pointer (some ⟨3, 188, none⟩), .pointer (some a), .int .u64 150]]).run Tryz.prog w
  = .ok (.iface 250 (.agg #[.pointer (some ⟨3,188,none⟩)])) w:=by kernel_rfl
theorem kindT (w:World):((ReflectliteType.abiMethod fun t=>(fun a:Nat=>Value.int IntKind.u8 (a:Int)) <$> Rtype.kind t) #[.pointer (some ⟨3,188,none⟩)]).run Tryz.prog w = .ok (.int .u8 22) w:=by kernel_rfl
theorem kindN (w:World):((ReflectliteType.abiMethod fun t=>(fun a:Nat=>Value.int IntKind.u8 (a:Int)) <$> Rtype.kind t) #[.pointer (some ⟨3,184,none⟩)]).run Tryz.prog w = .ok (.int .u8 2) w:=by kernel_rfl
theorem method_one {α:Type} (v:Value) (h1:Value→α) (h2:Array Value→α):ReflectliteValue.method.match_2 (motive:=fun _=>α) #[v] h1 h2=h1 v:=rfl
theorem partsT (a:Addr) (w:World):(ReflectliteValue.parts (.agg #[.pointer (some ⟨3,188,none⟩),.pointer (some a),.int .u64 150])).run Tryz.prog w = .ok (some (188,a,150)) w:=by kernel_rfl
theorem isNilT (a p:Addr) (W:World) (ha:W.cell? a=some (.pointer (some p))) :
  (ReflectliteValue.method (ReflectliteValue.valueError "reflectlite.Value.IsNil" 0) ReflectliteValue.isNil #[.agg #[.pointer (some ⟨3, 188, none⟩), .pointer (some a), .int .u64 150]]).run Tryz.prog W = .ok (.bool false) W := by
 delta ReflectliteValue.method
 rw [method_one]
 simp only [Sem.run_bind,partsT,Result.andThen]
 simp [ReflectliteValue.isNil,loadVar,isAgg,underlying,Tryz.underlying188,ha,Result.andThen]
theorem elemT (w:World):(ReflectliteType.method ReflectliteType.elem #[.agg #[.pointer (some ⟨3,188,none⟩)]]).run Tryz.prog w = .ok (.iface 250 (.agg #[.pointer (some ⟨3,184,none⟩)])) w:=by kernel_rfl
theorem implementsN (w : World) : (ReflectliteType.relation "Implements" ReflectliteType.implements_ #[.agg #[.pointer (some ⟨3, 184, none⟩)], .iface 250 (.agg #[.pointer (some ⟨3, 108, none⟩)])]).run Tryz.prog w = .ok (.bool true) w := by kernel_rfl
theorem assignableN (w : World) : (ReflectliteType.relation "AssignableTo" ReflectliteType.assignableTo #[.agg #[.pointer (some ⟨3, 184, none⟩)], .iface 250 (.agg #[.pointer (some ⟨3, 184, none⟩)])]).run Tryz.prog w = .ok (.bool true) w := by kernel_rfl
theorem valueOfN (n:Int) (w:World):(ReflectliteValue.unpack (.iface 184 (.int .i64 n))).run Tryz.prog w
  = .ok (.agg #[.pointer (some ⟨3,184,none⟩),.pointer (some ⟨w.heap.size,0,none⟩),.int .u64 130]) (w.alloc (.cells #[.int .i64 n] 184)):=by kernel_rfl
theorem elemOfT (w:World):(Rtype.elem? 188).run Tryz.prog w = .ok (some 184) w:=by kernel_rfl
theorem mkN (p:Addr) (w:World):(ReflectliteValue.mk 184 p ReflectliteValue.flagAddr).run Tryz.prog w = .ok (.agg #[.pointer (some ⟨3,184,none⟩),.pointer (some p),.int .u64 386]) w:=by kernel_rfl
theorem elemVT (a p:Addr) (W:World) (ha:W.cell? a=some (.pointer (some p))) :
  (ReflectliteValue.method (ReflectliteValue.valueError "reflectlite.Value.Elem" 0) ReflectliteValue.elem #[.agg #[.pointer (some ⟨3, 188, none⟩), .pointer (some a), .int .u64 150]]).run Tryz.prog W
   = .ok (.agg #[.pointer (some ⟨3,184,none⟩),.pointer (some p),.int .u64 386]) W:=by
 delta ReflectliteValue.method
 rw [method_one]
 simp only [Sem.run_bind,partsT,Result.andThen]
 simp [ReflectliteValue.elem,loadVar,isAgg,underlying,Tryz.underlying188,ha,Result.andThen,elemOfT,mkN]
theorem partsNa (a:Addr) (w:World):(ReflectliteValue.parts (.agg #[.pointer (some ⟨3,184,none⟩),.pointer (some a),.int .u64 386])).run Tryz.prog w = .ok (some (184,a,386)) w:=by kernel_rfl
theorem partsN (a:Addr) (w:World):(ReflectliteValue.parts (.agg #[.pointer (some ⟨3,184,none⟩),.pointer (some a),.int .u64 130])).run Tryz.prog w = .ok (some (184,a,130)) w:=by kernel_rfl
theorem directN (w:World):(Rtype.directlyAssignable 184 184).run Tryz.prog w = .ok true w:=by kernel_rfl
theorem set_two {α:Type} (v x:Value) (h1:Value→Value→α) (h2:Array Value→α):ReflectliteValue.set.match_3 (motive:=fun _=>α) #[v,x] h1 h2=h1 v x:=rfl
theorem setN (ta b:Addr) (n:Int) (old:Value) (W:World) (hb:W.cell? b=some (.int .i64 n)) (ht:W.cell? ta=some old) (hf:W.frozen? ta=false) :
  (ReflectliteValue.set #[.agg #[.pointer (some ⟨3,184,none⟩),.pointer (some ta),.int .u64 386],.agg #[.pointer (some ⟨3,184,none⟩),.pointer (some b),.int .u64 130]]).run Tryz.prog W
   = .ok (.tuple #[]) (W.setCell ta (.int .i64 n)):=by
 delta ReflectliteValue.set
 rw [set_two]
 simp only [Sem.run_bind,partsNa,partsN,Result.andThen]
 simp [ReflectliteValue.flagAddr,loadVar,isAgg,underlying,Tryz.underlying184,hb,Result.andThen,directN,storeVar,Value.cells,storeCells,Addr.add]
 rw [run_store Tryz.prog W ta _ _ (by rfl)]
 simp [ht,hf]
def ErrType (w:World):Prop:=w.cell? ⟨1,0,none⟩=some (.iface 250 (.agg #[.pointer (some ⟨3,108,none⟩)]))
theorem ErrType.kept {S:List Nat} {w w':World} (h:ErrType w) (f:Fr S w w') (h0:1∉S):ErrType w':=f.cell h h0
end Go.Proofs.YthokjbikomjhgaaGreatDoor.Er
