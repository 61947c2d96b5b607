/- errors.As with a target of type *api.Errno, of an error that is such a number: the target gets it. And what 'code' tells. -/
import Derived.Test.YthokjbikomjhgaaGreatDoorZAs
namespace Go.Proofs.YthokjbikomjhgaaGreatDoor.Er
open Go.RowKit Go.Extern.Stop Go.Stop Go.Extern Ar
set_option maxHeartbeats 4000000 in
set_option maxRecDepth 100000 in
theorem as_hit (n:Int) (b:Nat) (old:Value) (w:World) (hg:ErrType w) (hb:w.heap[b]? = some (.cells #[old] 184 (0,0))) :
  Calls Tryz.prog 132 #[.iface 184 (.int .i64 n),.iface 188 (.pointer (some ⟨b,0,none⟩))] w fun e w'=>e = .returned (.bool true)∧w'.cell? ⟨b,0,none⟩=some (.int .i64 n)∧Fr [b] w w':=by
 have hlt:b<w.heap.size:=(Array.getElem?_eq_some_iff.1 hb).1
 have h0:1<w.heap.size:=by have:=World.block_lt_of_cell? w _ hg;exact this
 have ht0:w.cell? ⟨b,0,none⟩=some old:=by rw [cell_of_row w b 0 _ _ _ hb];rfl
 have hf0:w.frozen? ⟨b,0,none⟩=false:=frozen_of_row _ _ _ _ _ hb
 have hF:Fr [b] w (((((w.alloc (.cells #[.pointer (some ⟨b,0,none⟩)] 188)).alloc (.cells #[.pointer (some ⟨3,188,none⟩),.pointer (some ⟨w.heap.size,0,none⟩),.int .u64 150] 225)).alloc (.cells #[.pointer (some ⟨3,188,none⟩),.pointer (some ⟨w.heap.size,0,none⟩),.int .u64 150] 225)).alloc (.cells #[.int .i64 n] 184)).setCell ⟨b,0,none⟩ (.int .i64 n)) :=
  (((((Fr.refl [b] w).alloc _).alloc _).alloc _).alloc _).setCell' _ (by simp)
 have hC:(((((w.alloc (.cells #[.pointer (some ⟨b,0,none⟩)] 188)).alloc (.cells #[.pointer (some ⟨3,188,none⟩),.pointer (some ⟨w.heap.size,0,none⟩),.int .u64 150] 225)).alloc (.cells #[.pointer (some ⟨3,188,none⟩),.pointer (some ⟨w.heap.size,0,none⟩),.int .u64 150] 225)).alloc (.cells #[.int .i64 n] 184)).setCell ⟨b,0,none⟩ (.int .i64 n)).cell? ⟨b,0,none⟩=some (.int .i64 n):=by
  have g:((((w.alloc (.cells #[.pointer (some ⟨b,0,none⟩)] 188)).alloc (.cells #[.pointer (some ⟨3,188,none⟩),.pointer (some ⟨w.heap.size,0,none⟩),.int .u64 150] 225)).alloc (.cells #[.pointer (some ⟨3,188,none⟩),.pointer (some ⟨w.heap.size,0,none⟩),.int .u64 150] 225)).alloc (.cells #[.int .i64 n] 184)).heap[b]? = some (.cells #[old] 184 (0,0)) :=
   ((((Fr.refl [] w).alloc _).alloc _).alloc _).alloc _ |>.heap hb (by simp)
  rw [cell_of_row _ b 0 _ _ _ (heap_setCell_same _ _ _ _ _ _ g)];rfl
 have HF:=q9 hF
 have HC:=q9 hC
 clear hF hC
 have hg':=hg
 unfold ErrType at hg'
 have h6:=@run_callFunc_extern Tryz.prog 182 _ (fun args=>ReflectliteValue.unpack (args.getD 0 (.tuple #[]))) Tryz.func182 (by kernel_rfl) (by kernel_rfl) (by kernel_rfl) (by kernel_rfl)
 have h7 := @run_callFunc_extern Tryz.prog 183 _ (ReflectliteValue.methodAny (ReflectliteValue.valueError "reflectlite.Value.Type" 0) (fun t _ _ _ => ReflectliteType.toType t)) Tryz.func183 (by kernel_rfl) (by kernel_rfl) (by kernel_rfl) (by kernel_rfl)
 have h8 := @run_callFunc_extern Tryz.prog 184 _ (ReflectliteValue.method (ReflectliteValue.valueError "reflectlite.Value.IsNil" 0) ReflectliteValue.isNil) Tryz.func184 (by kernel_rfl) (by kernel_rfl) (by kernel_rfl) (by kernel_rfl)
 have h27:=@run_callFunc_extern Tryz.prog 273 _ (ReflectliteType.abiMethod fun t=>do pure (.int .u8 (← Rtype.kind t))) Tryz.func273 (by kernel_rfl) (by kernel_rfl) (by kernel_rfl) (by kernel_rfl)
 have h37:=@run_callFunc_extern Tryz.prog 283 _ (ReflectliteType.method ReflectliteType.elem) Tryz.func283 (by kernel_rfl) (by kernel_rfl) (by kernel_rfl) (by kernel_rfl)
 have h38 := @run_callFunc_extern Tryz.prog 284 _ (ReflectliteType.relation "Implements" ReflectliteType.implements_) Tryz.func284 (by kernel_rfl) (by kernel_rfl) (by kernel_rfl) (by kernel_rfl)
 have h10:=@run_callFunc_extern Tryz.prog 176 _ ReflectliteType.typeOf Tryz.func176 (by kernel_rfl) (by kernel_rfl) (by kernel_rfl) (by kernel_rfl)
 have h35 := @run_callFunc_extern Tryz.prog 281 _ (ReflectliteType.relation "AssignableTo" ReflectliteType.assignableTo) Tryz.func281 (by kernel_rfl) (by kernel_rfl) (by kernel_rfl) (by kernel_rfl)
 have h11 := @run_callFunc_extern Tryz.prog 205 _ (ReflectliteValue.method (ReflectliteValue.valueError "reflectlite.Value.Elem" 0) ReflectliteValue.elem) Tryz.func205 (by kernel_rfl) (by kernel_rfl) (by kernel_rfl) (by kernel_rfl)
 have h12:=@run_callFunc_extern Tryz.prog 206 _ ReflectliteValue.set Tryz.func206 (by kernel_rfl) (by kernel_rfl) (by kernel_rfl) (by kernel_rfl)
 have tO:=qbj
 have mA:=assignableN
 have a25:=valueOfN
 have f6:=valueOfT
 have f7:=typeT
 have k27:=kindT
 have k25:=kindN
 have e27:=elemT
 have i25:=implementsN
 have iE:=isE
 have n8:=isNilT ⟨w.heap.size,0,none⟩ ⟨b,0,none⟩ ((w.alloc (.cells #[.pointer (some ⟨b,0,none⟩)] 188)).alloc (.cells #[.pointer (some ⟨3,188,none⟩),.pointer (some ⟨w.heap.size,0,none⟩),.int .u64 150] 225)) (by simp)
 have hg2:((w.alloc (.cells #[.pointer (some ⟨b,0,none⟩)] 188)).alloc (.cells #[.pointer (some ⟨3,188,none⟩),.pointer (some ⟨w.heap.size,0,none⟩),.int .u64 150] 225)).cell? ⟨1,0,none⟩=some (.iface 250 (.agg #[.pointer (some ⟨3,108,none⟩)])):=by
  rw [World.cell?_alloc_lt _ _ ⟨1,0,none⟩ (by simp <;> omega),World.cell?_alloc_lt _ _ ⟨1,0,none⟩ h0];exact hg'
 have el:=elemVT ⟨w.heap.size,0,none⟩ ⟨b,0,none⟩ (((w.alloc (.cells #[.pointer (some ⟨b,0,none⟩)] 188)).alloc (.cells #[.pointer (some ⟨3,188,none⟩),.pointer (some ⟨w.heap.size,0,none⟩),.int .u64 150] 225)).alloc (.cells #[.pointer (some ⟨3,188,none⟩),.pointer (some ⟨w.heap.size,0,none⟩),.int .u64 150] 225)) (by rw [World.cell?_alloc_lt _ _ ⟨w.heap.size,0,none⟩ (by simp;omega)];simp)
 have st:=setN ⟨b,0,none⟩ ⟨w.heap.size+1+1+1,0,none⟩ n old ((((w.alloc (.cells #[.pointer (some ⟨b,0,none⟩)] 188)).alloc (.cells #[.pointer (some ⟨3,188,none⟩),.pointer (some ⟨w.heap.size,0,none⟩),.int .u64 150] 225)).alloc (.cells #[.pointer (some ⟨3,188,none⟩),.pointer (some ⟨w.heap.size,0,none⟩),.int .u64 150] 225)).alloc (.cells #[.int .i64 n] 184))
  (by rw [World.cell?_alloc_at _ _ _ _ (by simp)];rfl)
  (by rw [World.cell?_alloc_lt _ _ ⟨b,0,none⟩ (by simp;omega),World.cell?_alloc_lt _ _ ⟨b,0,none⟩ (by simp;omega),World.cell?_alloc_lt _ _ ⟨b,0,none⟩ (by simp;omega),World.cell?_alloc_lt _ _ ⟨b,0,none⟩ hlt];exact ht0)
  (by rw [World.frozen?_alloc_old _ _ ⟨b,0,none⟩ (by simp;omega),World.frozen?_alloc_old _ _ ⟨b,0,none⟩ (by simp;omega),World.frozen?_alloc_old _ _ ⟨b,0,none⟩ (by simp;omega),World.frozen?_alloc_old _ _ ⟨b,0,none⟩ (Nat.ne_of_lt hlt)];exact hf0)
 clear hg hb
 go_enter Tryz.func132,Tryz.ntmps132
 go_wp2
 go_rounds 1
 go_ret
 exact ⟨rfl,HC.out,HF.out⟩
end Go.Proofs.YthokjbikomjhgaaGreatDoor.Er
