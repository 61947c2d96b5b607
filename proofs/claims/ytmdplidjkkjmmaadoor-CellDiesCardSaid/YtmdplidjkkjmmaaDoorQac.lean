/- Texts that this proof leans on, one behind the other: W1, Ob, Pb, TabU. -/
import Derived.Test.YtmdplidjkkjmmaaDoorQaa
import Derived.Test.YtmdplidjkkjmmaaDoorQab
import Derived.Laws.BitsAllLaws
import Derived.WalkArith
set_option linter.unusedVariables false
set_option linter.unusedSimpArgs false
set_option maxRecDepth 100000
set_option maxHeartbeats 12800000
namespace Go.Proofs.YtmdplidjkkjmmaaDoor.Mx
open Go.RowKit Go.Proofs.YtmdplidjkkjmmaaDoor.Ar Go.Proofs.YtmdplidjkkjmmaaDoor.Ref
def hd (n a b:Int):Int:=max a (min n b)
theorem hd_bd (n:Int) {a b:Int} (h:a≤b):a≤hd n a b∧hd n a b≤b:=by unfold hd;omega
theorem w64 {a:Int} (h0:-9223372036854775808≤a) (h1:a≤9223372036854775807):wrap64 a=a:=IntWalk.wrap64_in a ⟨h0,h1⟩
theorem ret_i {a b:Int} {w:World} (h:a=b):Ending.returned (.int .i64 a) = .returned (.int .i64 b)∧w=w:=⟨by rw [h],rfl⟩
theorem held_any (n a b:Int) (w:World):Calls Tryd.prog 24 #[.int .i64 n,.int .i64 a,.int .i64 b] w fun e w'=>e = .returned (.int .i64 (hd n a b))∧w=w':=by
 generalize hm:hd n a b=m
 have hm':=Lib.hid hm
 clear hm
 go_enter Tryd.func24,Tryd.ntmps24
 go_wp2
 all_goals go_ret
 all_goals exact ret_i (by rw [← hm'.out];unfold hd;(repeat' split at *) <;> omega)
def stateW (v:Int):Int:=hd v 0 16777212+3
theorem state_any (v:Int) (w:World):Calls Tryd.prog 15 #[.int .i64 v] w fun e w'=>e = .returned (.int .i64 (stateW v))∧w=w':=by
 go_enter Tryd.func15,Tryd.ntmps15
 go_wp2_with (go_at_call 24;refine (held_any _ _ _ _).mono ?_;rintro e _ ⟨rfl,rfl⟩)
 go_ret
 exact ret_i (by unfold stateW;have hb:=hd_bd v (show (0:Int)≤16777212 by decide);first | rfl | (rw [w64 (by omega) (by omega)]))
def Ob (w:World) (b:Nat) (T:TypeId) (cs:Array Value):Prop:=w.heap[b]? = some (.cells cs T (0,0))
theorem Ob.lt {w:World} {b:Nat} {T:TypeId} {cs:Array Value} (h:Ob w b T cs):b<w.heap.size:=(Array.getElem?_eq_some_iff.1 h).1
theorem Ob.kept {S:List Nat} {w w':World} {b:Nat} {T:TypeId} {cs:Array Value} (h:Ob w b T cs) (f:Fr S w w') (hb:b∉S):Ob w' b T cs:=f.heap h hb
theorem Ob.up {w w':World} {b:Nat} {T:TypeId} {cs:Array Value} (h:Ob w b T cs) (f:Fr [] w w'):Ob w' b T cs:=f.heap h (by simp)
theorem Ob.set {w:World} {b i:Nat} {T:TypeId} {cs:Array Value} (h:Ob w b T cs) (v:Value):Ob (w.setCell ⟨b,i,none⟩ v) b T (cs.setIfInBounds i v):=heap_setCell_same _ b i _ _ v h
theorem Ob.new (w:World) (T:TypeId) (cs:Array Value):Ob (w.alloc (.cells cs T (0,0))) w.heap.size T cs:=Go.heap_alloc_new w _
theorem sizeA (w:World) (o:Obj):(w.alloc o).heap.size=w.heap.size+1:=by unfold World.alloc;simp
theorem Ob.newAt {w:World} {n:Nat} (hs:w.heap.size=n) (T:TypeId) (cs:Array Value):Ob (w.alloc (.cells cs T (0,0))) n T cs:=by subst hs;exact Ob.new w T cs
theorem Ob.cell {w:World} {b:Nat} {T:TypeId} {cs:Array Value} (h:Ob w b T cs) {i:Nat} {v:Value} (hv:cs[i]? = some v):w.cell? ⟨b,i,none⟩=some v:=by
 rw [cell_of_row _ _ _ _ _ _ h];exact hv
theorem Ob.frozen {w:World} {b:Nat} {T:TypeId} {cs:Array Value} (h:Ob w b T cs) (i:Nat):w.frozen? ⟨b,i,none⟩=false:=frozen_of_row _ _ _ _ _ h
structure Cf where
 t:Int
 c:Int
 wd:Int
 v:Int
def Cf.val (c:Cf):Value:=.agg #[.int .i64 c.t,.int .i64 c.c,.int .i64 c.wd,.int .i64 c.v]
def stAt (a i:Int):Int:=wrap64 (a+7+3 * i)
theorem w64w (a b:Int):wrap64 (wrap64 a+wrap64 b)=wrap64 (a+b):=by unfold wrap64;omega
theorem w64l (a b:Int):wrap64 (wrap64 a+b)=wrap64 (a+b):=by unfold wrap64;omega
theorem w64r (a b:Int):wrap64 (a+wrap64 b)=wrap64 (a+b):=by unfold wrap64;omega
theorem w64i (a:Int):wrap64 (wrap64 a)=wrap64 a:=by unfold wrap64;omega
def Pb (w:World) (b:Nat) (T:TypeId) (pre post cs:Array Value):Prop:=Ob w b T (pre++cs++post)
theorem Pb.lt {w:World} {b:Nat} {T:TypeId} {pre post cs:Array Value} (h:Pb w b T pre post cs):b<w.heap.size:=Ob.lt h
theorem Pb.kept {S:List Nat} {w w':World} {b:Nat} {T:TypeId} {pre post cs:Array Value} (h:Pb w b T pre post cs) (f:Fr S w w') (hb:b∉S):Pb w' b T pre post cs:=Ob.kept h f hb
theorem Pb.up {w w':World} {b:Nat} {T:TypeId} {pre post cs:Array Value} (h:Pb w b T pre post cs) (f:Fr [] w w'):Pb w' b T pre post cs:=Ob.up h f
theorem Pb.frozen {w:World} {b:Nat} {T:TypeId} {pre post cs:Array Value} (h:Pb w b T pre post cs) (i:Nat):w.frozen? ⟨b,i,none⟩=false:=Ob.frozen h i
theorem Pb.cell {w:World} {b:Nat} {T:TypeId} {pre post cs:Array Value} (h:Pb w b T pre post cs) {o:Nat} (ho:pre.size=o) {i:Nat} {v:Value} (hv:cs[i]? = some v):w.cell? ⟨b,o+i,none⟩=some v:=by
 subst ho
 have hi:=(Array.getElem?_eq_some_iff.1 hv).1
 refine Ob.cell h ?_
 rw [Array.getElem?_append_left (by simp;omega),Array.getElem?_append_right (by omega),show pre.size+i - pre.size=i by omega]
 exact hv
theorem Pb.set {w:World} {b:Nat} {T:TypeId} {pre post cs:Array Value} (h:Pb w b T pre post cs) {o:Nat} (ho:pre.size=o) {i:Nat} (hi:i<cs.size) (v:Value):Pb (w.setCell ⟨b,o+i,none⟩ v) b T pre post (cs.setIfInBounds i v):=by
 subst ho
 have:=Ob.set (i:=pre.size+i) h v
 unfold Pb
 have e:(pre++cs++post).setIfInBounds (pre.size+i) v=pre++cs.setIfInBounds i v++post:=by
  apply Array.ext'
  simp only [Array.toList_setIfInBounds,Array.toList_append]
  have h1:pre.toList.length=pre.size:=by simp
  have h2:cs.toList.length=cs.size:=by simp
  rw [List.append_assoc,List.append_assoc,List.set_append_right _ _ (by omega),h1,show pre.size+i - pre.size=i by omega,List.set_append_left _ _ (by omega)]
 rw [← e];exact this
end Go.Proofs.YtmdplidjkkjmmaaDoor.Mx
namespace Go.Proofs.YtmdplidjkkjmmaaDoor.Gq
open Go.RowKit Go.Proofs.YtmdplidjkkjmmaaDoor.Ar Go.Proofs.YtmdplidjkkjmmaaDoor.Mx
theorem tab_kept {S:List Nat} {w w':World} (t:Word.Tab w) (f:Fr S w w') (h:0∉S):Word.Tab w':=by
 obtain ⟨t0,t1,t2,t3,t4,t5,t6,t7,t8,t9,t10,t11⟩:=t
 exact ⟨f.cell t0 h,f.cell t1 h,f.cell t2 h,f.cell t3 h,f.cell t4 h,f.cell t5 h,f.cell t6 h,f.cell t7 h,f.cell t8 h,f.cell t9 h,f.cell t10 h,f.cell t11 h⟩
theorem tab_up {w w':World} (t:Word.Tab w) (f:Fr [] w w'):Word.Tab w':=tab_kept t f (by simp)
theorem fr_dr {w w':World} (h:Word.Dr w w'):Fr [] w w':=by obtain ⟨m,rfl⟩:=h;exact (Fr.refl [] w).drewN m
theorem stateI_eq (v:Int):Word.stateI v=stateW v:=by unfold Word.stateI Word.heldI stateW hd;split <;> split <;> omega
theorem state9 (v:Int) (w:World) (t:Word.Tab w):Calls Tryd.prog 34 #[.int .i64 v] w fun e w'=>e = .returned (.int .i64 (stateW v))∧Fr [] w w' :=
 (Word.state_any v w t).mono fun e w' ⟨h,d⟩=>⟨by rw [h,stateI_eq],fr_dr d⟩
end Go.Proofs.YtmdplidjkkjmmaaDoor.Gq
