/- Texts that this proof leans on, one behind the other: Err, As, AsHit, Code6. -/
import Derived.Test.YtilipdnchflkhaaGreatDoorVaa
import Derived.LaidEql
import Derived.Lib.IfaceEq
import Derived.RowKitTokens
import Derived.Stop.Asserts
import Derived.Stop.IfaceNil
set_option linter.unusedVariables false
set_option linter.unusedSimpArgs false
set_option maxRecDepth 100000
set_option maxHeartbeats 12800000
namespace Go.Proofs.YtilipdnchflkhaaGreatDoor.Er
open Go.RowKit Go.Extern.Stop Go.Stop Go.Extern Go.Proofs.YtilipdnchflkhaaGreatDoor.Ar
theorem isE:Tryz.prog.isIface 72=true:=by kernel_rfl
theorem typeOfE (v:Value) (w:World):(Extern.ReflectliteType.typeOf #[.iface 133 v]).run Tryz.prog w = .ok (.iface 206 (.agg #[.pointer (some ⟨3,133,none⟩)])) w:=by kernel_rfl
theorem comparableE (w : World) : ((Extern.ReflectliteType.method fun t => do Extern.Rtype.noPackHeld "Comparable" t; (fun a => Value.bool a.comparable) <$> typeInfo t) #[.agg #[.pointer (some ⟨3, 133, none⟩)]]).run Tryz.prog w = .ok (.bool true) w := by kernel_rfl
theorem is_same (a:Int) (w:World) :
  Calls Tryz.prog 86 #[.iface 133 (.int .i64 a),.iface 133 (.int .i64 a)] w fun e w'=>e = .returned (.bool true)∧w=w':=by
 have h8:=@run_callFunc_extern Tryz.prog 125 _ Extern.ReflectliteType.typeOf Tryz.func125 (by kernel_rfl) (by kernel_rfl) (by kernel_rfl) (by kernel_rfl)
 have h32 := @run_callFunc_extern Tryz.prog 253 _ (Extern.ReflectliteType.method fun t => do Extern.Rtype.noPackHeld "Comparable" t; pure (.bool (← typeInfo t).comparable)) Tryz.func253 (by kernel_rfl) (by kernel_rfl) (by kernel_rfl) (by kernel_rfl)
 have tT:=typeOfE
 have cT:=comparableE
 have iE:=isE
 have heq:=fun (W:World)=>Lib.run_eql_iface_int (P:=Tryz.prog) W (k:=.i64) a a Tryz.underlying72 (by kernel_rfl) Tryz.underlying133
 simp only [beq_self_eq_true] at heq
 go_enter Tryz.func86,Tryz.ntmps86
 go_wp2
 go_rounds 1
 go_ret
 exact ⟨rfl,rfl⟩
theorem valueOfT (t:Addr) (w:World):(ReflectliteValue.unpack (.iface 138 (.pointer (some t)))).run Tryz.prog w
  = .ok (.agg #[.pointer (some ⟨3,138,none⟩),.pointer (some ⟨w.heap.size,0,none⟩),.int .u64 150]) (w.alloc (.cells #[.pointer (some t)] 138)):=by kernel_rfl
theorem typeT (a : Addr) (w : World) : (ReflectliteValue.methodAny (ReflectliteValue.valueError "reflectlite.Value.Type" 0) (fun t _ _ _ => ReflectliteType.toType t) #[.agg #[.pointer (some ⟨3, 138, none⟩), .pointer (some a), .int .u64 150]]).run Tryz.prog w
  = .ok (.iface 206 (.agg #[.pointer (some ⟨3,138,none⟩)])) w:=by kernel_rfl
theorem kindT (w:World):((ReflectliteType.abiMethod fun t=>(fun a:Nat=>Value.int IntKind.u8 (a:Int)) <$> Rtype.kind t) #[.pointer (some ⟨3,138,none⟩)]).run Tryz.prog w = .ok (.int .u8 22) w:=by kernel_rfl
theorem kindN (w:World):((ReflectliteType.abiMethod fun t=>(fun a:Nat=>Value.int IntKind.u8 (a:Int)) <$> Rtype.kind t) #[.pointer (some ⟨3,133,none⟩)]).run Tryz.prog w = .ok (.int .u8 2) w:=by kernel_rfl
theorem method_one {α:Type} (v:Value) (h1:Value→α) (h2:Array Value→α):ReflectliteValue.method.match_2 (motive:=fun _=>α) #[v] h1 h2=h1 v:=rfl
theorem partsT (a:Addr) (w:World):(ReflectliteValue.parts (.agg #[.pointer (some ⟨3,138,none⟩),.pointer (some a),.int .u64 150])).run Tryz.prog w = .ok (some (138,a,150)) w:=by kernel_rfl
theorem isNilT (a p:Addr) (W:World) (ha:W.cell? a=some (.pointer (some p))) :
  (ReflectliteValue.method (ReflectliteValue.valueError "reflectlite.Value.IsNil" 0) ReflectliteValue.isNil #[.agg #[.pointer (some ⟨3, 138, none⟩), .pointer (some a), .int .u64 150]]).run Tryz.prog W = .ok (.bool false) W := by
 delta ReflectliteValue.method
 rw [method_one]
 simp only [Sem.run_bind,partsT,Result.andThen]
 simp [ReflectliteValue.isNil,loadVar,isAgg,underlying,Tryz.underlying138,ha,Result.andThen]
theorem elemT (w:World):(ReflectliteType.method ReflectliteType.elem #[.agg #[.pointer (some ⟨3,138,none⟩)]]).run Tryz.prog w = .ok (.iface 206 (.agg #[.pointer (some ⟨3,133,none⟩)])) w:=by kernel_rfl
theorem implementsN (w : World) : (ReflectliteType.relation "Implements" ReflectliteType.implements_ #[.agg #[.pointer (some ⟨3, 133, none⟩)], .iface 206 (.agg #[.pointer (some ⟨3, 72, none⟩)])]).run Tryz.prog w = .ok (.bool true) w := by kernel_rfl
theorem assignableN (w : World) : (ReflectliteType.relation "AssignableTo" ReflectliteType.assignableTo #[.agg #[.pointer (some ⟨3, 133, none⟩)], .iface 206 (.agg #[.pointer (some ⟨3, 133, none⟩)])]).run Tryz.prog w = .ok (.bool true) w := by kernel_rfl
theorem valueOfN (n:Int) (w:World):(ReflectliteValue.unpack (.iface 133 (.int .i64 n))).run Tryz.prog w
  = .ok (.agg #[.pointer (some ⟨3,133,none⟩),.pointer (some ⟨w.heap.size,0,none⟩),.int .u64 130]) (w.alloc (.cells #[.int .i64 n] 133)):=by kernel_rfl
theorem elemOfT (w:World):(Rtype.elem? 138).run Tryz.prog w = .ok (some 133) w:=by kernel_rfl
theorem mkN (p:Addr) (w:World):(ReflectliteValue.mk 133 p ReflectliteValue.flagAddr).run Tryz.prog w = .ok (.agg #[.pointer (some ⟨3,133,none⟩),.pointer (some p),.int .u64 386]) w:=by kernel_rfl
theorem elemVT (a p:Addr) (W:World) (ha:W.cell? a=some (.pointer (some p))) :
  (ReflectliteValue.method (ReflectliteValue.valueError "reflectlite.Value.Elem" 0) ReflectliteValue.elem #[.agg #[.pointer (some ⟨3, 138, none⟩), .pointer (some a), .int .u64 150]]).run Tryz.prog W
   = .ok (.agg #[.pointer (some ⟨3,133,none⟩),.pointer (some p),.int .u64 386]) W:=by
 delta ReflectliteValue.method
 rw [method_one]
 simp only [Sem.run_bind,partsT,Result.andThen]
 simp [ReflectliteValue.elem,loadVar,isAgg,underlying,Tryz.underlying138,ha,Result.andThen,elemOfT,mkN]
theorem partsNa (a:Addr) (w:World):(ReflectliteValue.parts (.agg #[.pointer (some ⟨3,133,none⟩),.pointer (some a),.int .u64 386])).run Tryz.prog w = .ok (some (133,a,386)) w:=by kernel_rfl
theorem partsN (a:Addr) (w:World):(ReflectliteValue.parts (.agg #[.pointer (some ⟨3,133,none⟩),.pointer (some a),.int .u64 130])).run Tryz.prog w = .ok (some (133,a,130)) w:=by kernel_rfl
theorem directN (w:World):(Rtype.directlyAssignable 133 133).run Tryz.prog w = .ok true w:=by kernel_rfl
theorem set_two {α:Type} (v x:Value) (h1:Value→Value→α) (h2:Array Value→α):ReflectliteValue.set.match_3 (motive:=fun _=>α) #[v,x] h1 h2=h1 v x:=rfl
theorem setN (ta b:Addr) (n:Int) (old:Value) (W:World) (hb:W.cell? b=some (.int .i64 n)) (ht:W.cell? ta=some old) (hf:W.frozen? ta=false) :
  (ReflectliteValue.set #[.agg #[.pointer (some ⟨3,133,none⟩),.pointer (some ta),.int .u64 386],.agg #[.pointer (some ⟨3,133,none⟩),.pointer (some b),.int .u64 130]]).run Tryz.prog W
   = .ok (.tuple #[]) (W.setCell ta (.int .i64 n)):=by
 delta ReflectliteValue.set
 rw [set_two]
 simp only [Sem.run_bind,partsNa,partsN,Result.andThen]
 simp [ReflectliteValue.flagAddr,loadVar,isAgg,underlying,Tryz.underlying133,hb,Result.andThen,directN,storeVar,Value.cells,storeCells,Addr.add]
 rw [run_store Tryz.prog W ta _ _ (by rfl)]
 simp [ht,hf]
def ErrType (w:World):Prop:=w.cell? ⟨1,0,none⟩=some (.iface 206 (.agg #[.pointer (some ⟨3,72,none⟩)]))
theorem ErrType.kept {S:List Nat} {w w':World} (h:ErrType w) (f:Fr S w w') (h0:1∉S):ErrType w':=f.cell h h0
theorem as_hit (n:Int) (b:Nat) (old:Value) (w:World) (hg:ErrType w) (hb:w.heap[b]? = some (.cells #[old] 133 (0,0))) :
  Calls Tryz.prog 90 #[.iface 133 (.int .i64 n),.iface 138 (.pointer (some ⟨b,0,none⟩))] w fun e w'=>e = .returned (.bool true)∧w'.cell? ⟨b,0,none⟩=some (.int .i64 n)∧Fr [b] w w':=by
 have hlt:b<w.heap.size:=(Array.getElem?_eq_some_iff.1 hb).1
 have h0:1<w.heap.size:=by have:=World.block_lt_of_cell? w _ hg;exact this
 have ht0:w.cell? ⟨b,0,none⟩=some old:=by rw [cell_of_row w b 0 _ _ _ hb];rfl
 have hf0:w.frozen? ⟨b,0,none⟩=false:=frozen_of_row _ _ _ _ _ hb
 have hF:Fr [b] w (((((w.alloc (.cells #[.pointer (some ⟨b,0,none⟩)] 138)).alloc (.cells #[.pointer (some ⟨3,138,none⟩),.pointer (some ⟨w.heap.size,0,none⟩),.int .u64 150] 175)).alloc (.cells #[.pointer (some ⟨3,138,none⟩),.pointer (some ⟨w.heap.size,0,none⟩),.int .u64 150] 175)).alloc (.cells #[.int .i64 n] 133)).setCell ⟨b,0,none⟩ (.int .i64 n)) :=
  (((((Fr.refl [b] w).alloc _).alloc _).alloc _).alloc _).setCell' _ (by simp)
 have hC:(((((w.alloc (.cells #[.pointer (some ⟨b,0,none⟩)] 138)).alloc (.cells #[.pointer (some ⟨3,138,none⟩),.pointer (some ⟨w.heap.size,0,none⟩),.int .u64 150] 175)).alloc (.cells #[.pointer (some ⟨3,138,none⟩),.pointer (some ⟨w.heap.size,0,none⟩),.int .u64 150] 175)).alloc (.cells #[.int .i64 n] 133)).setCell ⟨b,0,none⟩ (.int .i64 n)).cell? ⟨b,0,none⟩=some (.int .i64 n):=by
  have g:((((w.alloc (.cells #[.pointer (some ⟨b,0,none⟩)] 138)).alloc (.cells #[.pointer (some ⟨3,138,none⟩),.pointer (some ⟨w.heap.size,0,none⟩),.int .u64 150] 175)).alloc (.cells #[.pointer (some ⟨3,138,none⟩),.pointer (some ⟨w.heap.size,0,none⟩),.int .u64 150] 175)).alloc (.cells #[.int .i64 n] 133)).heap[b]? = some (.cells #[old] 133 (0,0)) :=
   ((((Fr.refl [] w).alloc _).alloc _).alloc _).alloc _ |>.heap hb (by simp)
  rw [cell_of_row _ b 0 _ _ _ (heap_setCell_same _ _ _ _ _ _ g)];rfl
 have HF:=Lib.hid hF
 have HC:=Lib.hid hC
 clear hF hC
 have hg':=hg
 unfold ErrType at hg'
 have h6:=@run_callFunc_extern Tryz.prog 128 _ (fun args=>ReflectliteValue.unpack (args.getD 0 (.tuple #[]))) Tryz.func128 (by kernel_rfl) (by kernel_rfl) (by kernel_rfl) (by kernel_rfl)
 have h7 := @run_callFunc_extern Tryz.prog 129 _ (ReflectliteValue.methodAny (ReflectliteValue.valueError "reflectlite.Value.Type" 0) (fun t _ _ _ => ReflectliteType.toType t)) Tryz.func129 (by kernel_rfl) (by kernel_rfl) (by kernel_rfl) (by kernel_rfl)
 have h8 := @run_callFunc_extern Tryz.prog 130 _ (ReflectliteValue.method (ReflectliteValue.valueError "reflectlite.Value.IsNil" 0) ReflectliteValue.isNil) Tryz.func130 (by kernel_rfl) (by kernel_rfl) (by kernel_rfl) (by kernel_rfl)
 have h27:=@run_callFunc_extern Tryz.prog 244 _ (ReflectliteType.abiMethod fun t=>do pure (.int .u8 (← Rtype.kind t))) Tryz.func244 (by kernel_rfl) (by kernel_rfl) (by kernel_rfl) (by kernel_rfl)
 have h37:=@run_callFunc_extern Tryz.prog 254 _ (ReflectliteType.method ReflectliteType.elem) Tryz.func254 (by kernel_rfl) (by kernel_rfl) (by kernel_rfl) (by kernel_rfl)
 have h38 := @run_callFunc_extern Tryz.prog 255 _ (ReflectliteType.relation "Implements" ReflectliteType.implements_) Tryz.func255 (by kernel_rfl) (by kernel_rfl) (by kernel_rfl) (by kernel_rfl)
 have h10:=@run_callFunc_extern Tryz.prog 125 _ ReflectliteType.typeOf Tryz.func125 (by kernel_rfl) (by kernel_rfl) (by kernel_rfl) (by kernel_rfl)
 have h35 := @run_callFunc_extern Tryz.prog 252 _ (ReflectliteType.relation "AssignableTo" ReflectliteType.assignableTo) Tryz.func252 (by kernel_rfl) (by kernel_rfl) (by kernel_rfl) (by kernel_rfl)
 have h11 := @run_callFunc_extern Tryz.prog 159 _ (ReflectliteValue.method (ReflectliteValue.valueError "reflectlite.Value.Elem" 0) ReflectliteValue.elem) Tryz.func159 (by kernel_rfl) (by kernel_rfl) (by kernel_rfl) (by kernel_rfl)
 have h12:=@run_callFunc_extern Tryz.prog 160 _ ReflectliteValue.set Tryz.func160 (by kernel_rfl) (by kernel_rfl) (by kernel_rfl) (by kernel_rfl)
 have tO:=typeOfE
 have mA:=assignableN
 have a25:=valueOfN
 have f6:=valueOfT
 have f7:=typeT
 have k27:=kindT
 have k25:=kindN
 have e27:=elemT
 have i25:=implementsN
 have iE:=isE
 have n8:=isNilT ⟨w.heap.size,0,none⟩ ⟨b,0,none⟩ ((w.alloc (.cells #[.pointer (some ⟨b,0,none⟩)] 138)).alloc (.cells #[.pointer (some ⟨3,138,none⟩),.pointer (some ⟨w.heap.size,0,none⟩),.int .u64 150] 175)) (by simp)
 have hg2:((w.alloc (.cells #[.pointer (some ⟨b,0,none⟩)] 138)).alloc (.cells #[.pointer (some ⟨3,138,none⟩),.pointer (some ⟨w.heap.size,0,none⟩),.int .u64 150] 175)).cell? ⟨1,0,none⟩=some (.iface 206 (.agg #[.pointer (some ⟨3,72,none⟩)])):=by
  rw [World.cell?_alloc_lt _ _ ⟨1,0,none⟩ (by simp <;> omega),World.cell?_alloc_lt _ _ ⟨1,0,none⟩ h0];exact hg'
 have el:=elemVT ⟨w.heap.size,0,none⟩ ⟨b,0,none⟩ (((w.alloc (.cells #[.pointer (some ⟨b,0,none⟩)] 138)).alloc (.cells #[.pointer (some ⟨3,138,none⟩),.pointer (some ⟨w.heap.size,0,none⟩),.int .u64 150] 175)).alloc (.cells #[.pointer (some ⟨3,138,none⟩),.pointer (some ⟨w.heap.size,0,none⟩),.int .u64 150] 175)) (by rw [World.cell?_alloc_lt _ _ ⟨w.heap.size,0,none⟩ (by simp;omega)];simp)
 have st:=setN ⟨b,0,none⟩ ⟨w.heap.size+1+1+1,0,none⟩ n old ((((w.alloc (.cells #[.pointer (some ⟨b,0,none⟩)] 138)).alloc (.cells #[.pointer (some ⟨3,138,none⟩),.pointer (some ⟨w.heap.size,0,none⟩),.int .u64 150] 175)).alloc (.cells #[.pointer (some ⟨3,138,none⟩),.pointer (some ⟨w.heap.size,0,none⟩),.int .u64 150] 175)).alloc (.cells #[.int .i64 n] 133))
  (by rw [World.cell?_alloc_at _ _ _ _ (by simp)];rfl)
  (by rw [World.cell?_alloc_lt _ _ ⟨b,0,none⟩ (by simp;omega),World.cell?_alloc_lt _ _ ⟨b,0,none⟩ (by simp;omega),World.cell?_alloc_lt _ _ ⟨b,0,none⟩ (by simp;omega),World.cell?_alloc_lt _ _ ⟨b,0,none⟩ hlt];exact ht0)
  (by rw [World.frozen?_alloc_old _ _ ⟨b,0,none⟩ (by simp;omega),World.frozen?_alloc_old _ _ ⟨b,0,none⟩ (by simp;omega),World.frozen?_alloc_old _ _ ⟨b,0,none⟩ (by simp;omega),World.frozen?_alloc_old _ _ ⟨b,0,none⟩ (Nat.ne_of_lt hlt)];exact hf0)
 clear hg hb
 go_enter Tryz.func90,Tryz.ntmps90
 go_wp2
 go_rounds 1
 go_ret
 exact ⟨rfl,HC.out,HF.out⟩
end Go.Proofs.YtilipdnchflkhaaGreatDoor.Er
namespace Go.Proofs.YtilipdnchflkhaaGreatDoor.Vw
open Go.RowKit Go.Proofs.YtilipdnchflkhaaGreatDoor.Ar
theorem code_nil (w:World):Calls Tryz.prog 43 #[.nilIface] w fun e w'=>e = .returned (.int .i64 0)∧Fr [] w w':=by
 have isE:=Er.isE
 go_enter Tryz.func43,Tryz.ntmps43
 go_wp2
 go_ret
 exact ⟨rfl,(Fr.refl _ _).alloc _⟩
theorem code_some (n:Int) (w:World) (h:Er.ErrType w):Calls Tryz.prog 43 #[.iface 133 (.int .i64 n)] w fun e w'=>e = .returned (.int .i64 n)∧Fr [] w w':=by
 have isE:=Er.isE
 have hlt:=World.block_lt_of_cell? w _ h
 have h1:Er.ErrType (w.alloc (.cells #[.int .i64 0] 133)):=h.kept ((Fr.refl [] w).alloc _) (by simp)
 go_enter Tryz.func43,Tryz.ntmps43
 go_wp2_with fail
 refine (Er.as_hit n w.heap.size (.int .i64 0) _ h1 (Go.heap_alloc_new w _)).mono ?_;rintro e w1 ⟨rfl,hc,F⟩
 have G:=((Fr.refl [] w).alloc _).own F (by simp)
 clear F h1
 go_wp2
 go_ret
 exact ⟨rfl,G⟩
theorem code_errv (n:Int) (w:World) (h:Er.ErrType w):Calls Tryz.prog 43 #[Pl.errv n] w fun e w'=>e = .returned (.int .i64 n)∧Fr [] w w':=by
 unfold Pl.errv
 split
 ·rename_i h0;subst h0;exact code_nil w
 ·exact code_some n w h
end Go.Proofs.YtilipdnchflkhaaGreatDoor.Vw
