/- Texts that this proof leans on, one behind the other: W1, Ob. -/
import Derived.Test.YtilipdnchflkhaaDoorGaa
import Derived.Test.YtilipdnchflkhaaDoorGab
import Derived.Laws.BitsAllLaws
import Derived.WalkArith
set_option linter.unusedVariables false
set_option linter.unusedSimpArgs false
set_option maxRecDepth 100000
set_option maxHeartbeats 12800000
namespace Go.Proofs.YtilipdnchflkhaaDoor.Mx
open Go.RowKit Go.Proofs.YtilipdnchflkhaaDoor.Ar Go.Proofs.YtilipdnchflkhaaDoor.Ref
def hd (n a b:Int):Int:=max a (min n b)
theorem hd_bd (n:Int) {a b:Int} (h:a≤b):a≤hd n a b∧hd n a b≤b:=by unfold hd;omega
theorem w64 {a:Int} (h0:-9223372036854775808≤a) (h1:a≤9223372036854775807):wrap64 a=a:=IntWalk.wrap64_in a ⟨h0,h1⟩
theorem ret_i {a b:Int} {w:World} (h:a=b):Ending.returned (.int .i64 a) = .returned (.int .i64 b)∧w=w:=⟨by rw [h],rfl⟩
theorem held_any (n a b:Int) (w:World):Calls Tryd.prog 24 #[.int .i64 n,.int .i64 a,.int .i64 b] w fun e w'=>e = .returned (.int .i64 (hd n a b))∧w=w':=by
 generalize hm:hd n a b=m
 have hm':=Lib.hid hm
 clear hm
 go_enter Tryd.func24,Tryd.ntmps24
 go_wp2
 all_goals go_ret
 all_goals exact ret_i (by rw [← hm'.out];unfold hd;(repeat' split at *) <;> omega)
def stateW (v:Int):Int:=hd v 0 16777212+3
def verW (s:Int):Int:=if s<3 then -1 else wrap64 (s - 3)
theorem state_any (v:Int) (w:World):Calls Tryd.prog 15 #[.int .i64 v] w fun e w'=>e = .returned (.int .i64 (stateW v))∧w=w':=by
 go_enter Tryd.func15,Tryd.ntmps15
 go_wp2_with (go_at_call 24;refine (held_any _ _ _ _).mono ?_;rintro e _ ⟨rfl,rfl⟩)
 go_ret
 exact ret_i (by unfold stateW;have hb:=hd_bd v (show (0:Int)≤16777212 by decide);first | rfl | (rw [w64 (by omega) (by omega)]))
def Ob (w:World) (b:Nat) (T:TypeId) (cs:Array Value):Prop:=w.heap[b]? = some (.cells cs T (0,0))
theorem Ob.lt {w:World} {b:Nat} {T:TypeId} {cs:Array Value} (h:Ob w b T cs):b<w.heap.size:=(Array.getElem?_eq_some_iff.1 h).1
theorem Ob.kept {S:List Nat} {w w':World} {b:Nat} {T:TypeId} {cs:Array Value} (h:Ob w b T cs) (f:Fr S w w') (hb:b∉S):Ob w' b T cs:=f.heap h hb
theorem Ob.up {w w':World} {b:Nat} {T:TypeId} {cs:Array Value} (h:Ob w b T cs) (f:Fr [] w w'):Ob w' b T cs:=f.heap h (by simp)
theorem Ob.set {w:World} {b i:Nat} {T:TypeId} {cs:Array Value} (h:Ob w b T cs) (v:Value):Ob (w.setCell ⟨b,i,none⟩ v) b T (cs.setIfInBounds i v):=heap_setCell_same _ b i _ _ v h
theorem Ob.new (w:World) (T:TypeId) (cs:Array Value):Ob (w.alloc (.cells cs T (0,0))) w.heap.size T cs:=Go.heap_alloc_new w _
theorem sizeA (w:World) (o:Obj):(w.alloc o).heap.size=w.heap.size+1:=by unfold World.alloc;simp
theorem Ob.newAt {w:World} {n:Nat} (hs:w.heap.size=n) (T:TypeId) (cs:Array Value):Ob (w.alloc (.cells cs T (0,0))) n T cs:=by subst hs;exact Ob.new w T cs
theorem Ob.cell {w:World} {b:Nat} {T:TypeId} {cs:Array Value} (h:Ob w b T cs) {i:Nat} {v:Value} (hv:cs[i]? = some v):w.cell? ⟨b,i,none⟩=some v:=by
 rw [cell_of_row _ _ _ _ _ _ h];exact hv
theorem Ob.frozen {w:World} {b:Nat} {T:TypeId} {cs:Array Value} (h:Ob w b T cs) (i:Nat):w.frozen? ⟨b,i,none⟩=false:=frozen_of_row _ _ _ _ _ h
theorem frSub {S T:List Nat} {w w' w'':World} (h:Fr S w w') (k:Fr T w' w'') (hT:∀ i,i∈T→i∈S):Fr S w w'':=h.trans (k.mono hT)
structure Cf where
 t:Int
 c:Int
 wd:Int
 v:Int
def Cf.val (c:Cf):Value:=.agg #[.int .i64 c.t,.int .i64 c.c,.int .i64 c.wd,.int .i64 c.v]
structure Cf.Ok (c:Cf):Prop where
 t1:1≤c.t
 t8:c.t≤8
 c2:c.t+2≤c.c
 c16:c.c≤16
 w1:1≤c.wd
 w2:c.wd≤20000
 v1:1≤c.v
 v2:c.v≤1048576
 top:21+c.t+3 * c.c≤c.wd
def stAt (a i:Int):Int:=wrap64 (a+7+3 * i)
theorem w64w (a b:Int):wrap64 (wrap64 a+wrap64 b)=wrap64 (a+b):=by unfold wrap64;omega
theorem w64l (a b:Int):wrap64 (wrap64 a+b)=wrap64 (a+b):=by unfold wrap64;omega
theorem w64r (a b:Int):wrap64 (a+wrap64 b)=wrap64 (a+b):=by unfold wrap64;omega
theorem w64i (a:Int):wrap64 (wrap64 a)=wrap64 a:=by unfold wrap64;omega
end Go.Proofs.YtilipdnchflkhaaDoor.Mx
