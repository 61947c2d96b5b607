/- Texts that this proof leans on, one behind the other: Maps, Rar. -/
import Derived.Test.YtilipdnchflkhaaGreatDoorVaa
import Derived.Maps.OwnOps
import Derived.Maps.RangeWalk
import Derived.Maps.Views
set_option linter.unusedVariables false
set_option linter.unusedSimpArgs false
set_option maxRecDepth 100000
set_option maxHeartbeats 12800000
namespace Go.Proofs.YtilipdnchflkhaaGreatDoor.Ar
open Go.RowKit Go.Maps
theorem intKey:Keyed Tryz.prog 3:=int_keyed Tryz.underlying3
def Holds (D:DataW Unit) (g:Int→Option Int):Prop :=
 IsMap D∧∀ k:Int,Maps.has D (.int .i64 k)=(g k).isSome∧∀ v,g k=some v→∀ zd,D.atKey (.int .i64 k) zd = .lit (.int .i64 v)
def IMap (w:World) (b n:Nat) (g:Int→Option Int):Prop:=∃ D,w.ownsMap Tryz.prog 3 (plainElem (H:=Unit) Tryz.prog 3) b n D∧Holds D g
theorem holds_empty:Holds (.map []) (fun _=>none):=⟨isMap_empty,fun k=>⟨rfl,fun v h=>by cases h⟩⟩
theorem Holds.put {D:DataW Unit} {g:Int→Option Int} (h:Holds D g) (k v:Int):Holds (D.put (.int .i64 k) (.lit (.int .i64 v))) (fun x=>if x=k then some v else g x):=by
 obtain ⟨hm,hg⟩:=h
 refine ⟨hm.put _ _,fun x=>?_⟩
 by_cases hx:x=k
 ·subst hx
  have hk:WideAt.IsKeyLit (.int .i64 x):=trivial
  exact ⟨by rw [has_put_same hm hk];simp,fun u hu zd=>by simp at hu;subst hu;exact atKey_put_same hm hk _ _⟩
 ·have hne:(Lit.int .i64 x)≠Lit.int .i64 k:=fun e=>hx (by cases e;rfl)
  simp only [if_neg hx]
  rw [has_put_other hne]
  exact ⟨(hg x).1,fun u hu zd=>by rw [atKey_put_other hne];exact (hg x).2 u hu zd⟩
theorem IMap.made (w:World):IMap (w.alloc (.map #[] 0)) w.heap.size 0 (fun _=>none):=⟨_,World.ownsMap_made w _ _ _,holds_empty⟩
theorem IMap.kept {w w':World} {b n:Nat} {g:Int→Option Int} {S:List Nat} (h:IMap w b n g) (f:Fr S w w') (hb:b∉S):IMap w' b n g:=by
 obtain ⟨D,⟨es,clock,h1,h2⟩,hD⟩:=h
 exact ⟨D,⟨es,clock,f.heap h1 hb,h2⟩,hD⟩
theorem Fr.grownAt {w w':World} {b:Nat} (h:w.grownBy w' (some b)):Fr [b] w w':=⟨h.os,h.tape,h.output,h.size,fun k hk hn=>h.block k hk (fun e=>hn (by cases e;simp))⟩
theorem run_insert {w:World} {b n:Nat} {g:Int→Option Int} (h:IMap w b n g) (hn:n<maxLen) (k v:Int) (hk:(Lit.int .i64 k).wf=true) (hv:(Lit.int .i64 v).wf=true) :
  ∃ w',(Instr.mapUpdate 158 (.map (some b)) (.int .i64 k) (.int .i64 v)).run Tryz.prog w = .ok () w'∧IMap w' b (n+1) (fun x=>if x=k then some v else g x)∧Fr [b] w w':=by
 obtain ⟨D,h1,hD⟩:=h
 obtain ⟨w',r1,r2,r3⟩:=h1.update intKey Tryz.underlying158 hn (keyOf_int_mk Tryz.underlying3 hk) (plainElem_int Tryz.underlying3 hv)
 exact ⟨w',r1,⟨_,r2,hD.put k v⟩,Fr.grownAt r3⟩
theorem wpList_insert {w:World} {ops:Array Oper} {rest:List Oper} {o:Oper} {a:Act} {Q:Exit→Act→World→Prop}
  (hg:o.guard=none) (m x y:Operand) (hop:o.op=Op.insert 158 m x y) {b n:Nat} {g:Int→Option Int} (k v:Int)
  (hm:a.eval m = .map (some b)) (hx:a.eval x = .int .i64 k) (hy:a.eval y = .int .i64 v) (h:IMap w b n g) (hn:n<maxLen) (hk:(Lit.int .i64 k).wf=true) (hv:(Lit.int .i64 v).wf=true)
  (hK:∀ w',IMap w' b (n+1) (fun x=>if x=k then some v else g x)→Fr [b] w w'→wpList Tryz.prog ops Q rest (a.put o.dst undef) w') :
  wpList Tryz.prog ops Q (o :: rest) a w:=by
 refine wpList_plain hg fun K' hK'=>?_
 obtain ⟨w',hrun,r1,r2⟩:=run_insert h hn k v hk hv
 unfold Oper.wp
 simp [execOp,hop,hm,hx,hy,hrun,Result.andThen]
 exact hK' _ _ (hK w' r1 r2)
end Go.Proofs.YtilipdnchflkhaaGreatDoor.Ar
namespace Go.Proofs.YtilipdnchflkhaaGreatDoor.Ref
open Go.RowKit Go.Proofs.YtilipdnchflkhaaGreatDoor.Ar
def rarHead (s:St) (q cap:Nat):Array Value :=
 #[.slice (some ⟨q,0,none⟩) s.l.length cap,.int .i64 s.n,.int .i64 s.a.kind,.int .i64 s.a.at_,.int .i64 s.a.old,.int .i64 s.a.new,.bool s.a.ok]
structure Rar (w:World) (p q:Nat) (s:St):Prop where
 ne:p≠q
 lo:1≤s.l.length
 hi:s.l.length≤20000
 mem:∃ cap c,w.heap[p]? = some (.cells (rarHead s q cap) 47 (0,0))∧s.l.length≤cap∧cap≤maxLen ∧
  w.heap[q]? = some (.cells c 3 (0,0))∧c.size=cap∧∀ i,i<s.l.length→c[i]? = some (.int .i64 (nth s.l i))
theorem Rar.lt {w:World} {p q:Nat} {s:St} (h:Rar w p q s):p<w.heap.size∧q<w.heap.size:=by
 obtain ⟨ne,lo,hi,cap,c,hp,hc1,hc2,hq,hs,hc⟩:=h
 exact ⟨(Array.getElem?_eq_some_iff.1 hp).1,(Array.getElem?_eq_some_iff.1 hq).1⟩
theorem rarCells {w:World} {p q:Nat} {s:St} (h:Rar w p q s):∃ cap,s.l.length≤cap∧w.cell? ⟨p,0,none⟩=some (.slice (some ⟨q,0,none⟩) s.l.length cap)∧w.cell? ⟨p,1,none⟩=some (.int .i64 s.n)∧w.cell? ⟨p,2,none⟩=some (.int .i64 s.a.kind) ∧
  w.cell? ⟨p,3,none⟩=some (.int .i64 s.a.at_)∧w.cell? ⟨p,4,none⟩=some (.int .i64 s.a.old)∧w.cell? ⟨p,5,none⟩=some (.int .i64 s.a.new)∧w.cell? ⟨p,6,none⟩=some (.bool s.a.ok)∧∀ i,i<s.l.length→w.cell? ⟨q,i,none⟩=some (.int .i64 (nth s.l i)):=by
 obtain ⟨ne,lo,hi,cap,c,hp,hc1,hc2,hq,hs,hc⟩:=h
 exact ⟨cap,hc1,by rw [cell_of_row w p 0 _ _ _ hp];rfl,by rw [cell_of_row w p 1 _ _ _ hp];rfl,by rw [cell_of_row w p 2 _ _ _ hp];rfl,by rw [cell_of_row w p 3 _ _ _ hp];rfl,by rw [cell_of_row w p 4 _ _ _ hp];rfl,by rw [cell_of_row w p 5 _ _ _ hp];rfl,by rw [cell_of_row w p 6 _ _ _ hp];rfl,
  fun i hi=>by rw [cell_of_row w q i _ _ _ hq];exact hc i hi⟩
theorem Rar.kept {w w':World} {p q:Nat} {s:St} {S:List Nat} (h:Rar w p q s) (f:Fr S w w') (hp:p∉S:=by simp) (hq:q∉S:=by simp):Rar w' p q s:=by
 have hlt:=h.lt
 obtain ⟨ne,lo,hi,cap,c,h1,h2,h3,h4,h5,h6⟩:=h
 exact ⟨ne,lo,hi,cap,c,(f.block p hlt.1 hp).trans h1,h2,h3,(f.block q hlt.2 hq).trans h4,h5,h6⟩
theorem has_in (w:World) (p q:Nat) (s:St) (k:Nat) (h:Rar w p q s) (hk:k<s.l.length) :
  Calls Tryz.prog 80 #[.pointer (some ⟨p,0,none⟩),.int .i64 k] w fun e w'=>e = .returned (.bool true)∧w=w':=by
 obtain ⟨ne,lo,hi,cap,c,hp,hc1,hc2,hq,hs,hc⟩:=h
 have h0:w.cell? ⟨p,0,none⟩=some (.slice (some ⟨q,0,none⟩) s.l.length cap):=by rw [cell_of_row w p 0 _ _ _ hp];rfl
 clear hp hq hc
 go_enter Tryz.func80,Tryz.ntmps80
 go_wp2
 go_ret
 exact ⟨rfl,rfl⟩
theorem has_out (w:World) (p q:Nat) (s:St) (k:Int) (h:Rar w p q s) (hk:k<0∨s.l.length≤k) :
  Calls Tryz.prog 80 #[.pointer (some ⟨p,0,none⟩),.int .i64 k] w fun e w'=>e = .returned (.bool false)∧w=w':=by
 obtain ⟨ne,lo,hi,cap,c,hp,hc1,hc2,hq,hs,hc⟩:=h
 have h0:w.cell? ⟨p,0,none⟩=some (.slice (some ⟨q,0,none⟩) s.l.length cap):=by rw [cell_of_row w p 0 _ _ _ hp];rfl
 clear hp hq hc
 by_cases hk0:k<0
 ·clear hk
  go_enter Tryz.func80,Tryz.ntmps80
  go_wp2
  go_ret
  exact ⟨rfl,rfl⟩
 ·have hf:decide (k<(s.l.length:Int))=false:=by simp;omega
  have hk1:0≤k:=by omega
  clear hk hk0
  go_enter Tryz.func80,Tryz.ntmps80
  go_wp2
  go_ret
  exact ⟨by simp,rfl⟩
theorem has_any (w:World) (p q:Nat) (s:St) (i:Int) (h:Rar w p q s) :
  Calls Tryz.prog 80 #[.pointer (some ⟨p,0,none⟩),.int .i64 i] w fun e w'=>e = .returned (.bool (isAt s.l i))∧w=w':=by
 rcases isAt_cases s.l i with ⟨k,rfl,hk,e⟩ | ⟨hk,e⟩
 ·rw [e];exact has_in w p q s k h hk
 ·rw [e];exact has_out w p q s i h hk
theorem peek_any (w:World) (p q:Nat) (s:St) (i:Int) (h:Rar w p q s) :
  Calls Tryz.prog 28 #[.pointer (some ⟨p,0,none⟩),.int .i64 i] w fun e w'=>e = .returned (.int .i64 (peek s.l i))∧w=w':=by
 have h':=h
 obtain ⟨ne,lo,hi,cap,c,hp,hc1,hc2,hq,hs,hc⟩:=h
 have h0:w.cell? ⟨p,0,none⟩=some (.slice (some ⟨q,0,none⟩) s.l.length cap):=by rw [cell_of_row w p 0 _ _ _ hp];rfl
 rcases isAt_cases s.l i with ⟨k,rfl,hk,e⟩ | ⟨hk,e⟩
 ·have h1:w.cell? ⟨q,k,none⟩=some (.int .i64 (nth s.l k)):=by rw [cell_of_row w q _ _ _ _ hq];exact hc k hk
  rw [peek_at hk]
  clear hp hq hc e
  go_enter Tryz.func28,Tryz.ntmps28
  go_wp2_with (go_at_call 80;refine (has_in _ p q s k h' hk).mono ?_;rintro e w' ⟨rfl,rfl⟩)
  go_ret
  exact ⟨rfl,rfl⟩
 ·rw [peek_no e]
  clear hp hq hc e
  go_enter Tryz.func28,Tryz.ntmps28
  go_wp2_with (go_at_call 80;refine (has_out _ p q s i h' hk).mono ?_;rintro e w' ⟨rfl,rfl⟩)
  go_ret
  exact ⟨rfl,rfl⟩
theorem poke_any (w:World) (p q:Nat) (s:St) (i v:Int) (h:Rar w p q s) :
  Calls Tryz.prog 56 #[.pointer (some ⟨p,0,none⟩),.int .i64 i,.int .i64 v] w fun e w'=>e = .returned (.tuple #[])∧Rar w' p q (s.poke i v)∧Fr [q] w w':=by
 have h':=h
 obtain ⟨ne,lo,hi,cap,c,hp,hc1,hc2,hq,hs,hc⟩:=h
 have h0:w.cell? ⟨p,0,none⟩=some (.slice (some ⟨q,0,none⟩) s.l.length cap):=by rw [cell_of_row w p 0 _ _ _ hp];rfl
 rcases isAt_cases s.l i with ⟨k,rfl,hk,e⟩ | ⟨hk,e⟩
 ·have h1:w.cell? ⟨q,k,none⟩=some (.int .i64 (nth s.l k)):=by rw [cell_of_row w q _ _ _ _ hq];exact hc k hk
  have h2:w.frozen? ⟨q,k,none⟩=false:=frozen_of_row _ _ _ _ _ hq
  have A1:Rar (w.setCell ⟨q,k,none⟩ (.int .i64 v)) p q (s.poke k v):=by
   refine ⟨ne,by simp [St.poke,length_poke];exact lo,by simp [St.poke,length_poke];exact hi,cap,_,?_,by simpa [St.poke,length_poke] using hc1,hc2,heap_setCell_same _ _ _ _ _ _ hq,by simpa using hs,?_⟩
   ·rw [heap_setCell_other _ _ _ _ ne];simpa [rarHead,St.poke,length_poke] using hp
   ·intro j hj
    simp only [St.poke,length_poke] at hj
    simp only [St.poke,poke_at v hk,Array.getElem?_setIfInBounds,hc j hj,nth,List.getD_eq_getElem?_getD,List.getElem?_set]
    split
    ·rename_i hkj;subst hkj
     rw [if_pos (by rw [hs];omega)];rfl
    ·rfl
  have F1:Fr [q] w (w.setCell ⟨q,k,none⟩ (.int .i64 v)):=Fr.setCell _ (by simp)
  clear hp hq hc e
  go_enter Tryz.func56,Tryz.ntmps56
  go_wp2_with (go_at_call 80;refine (has_in _ p q s k h' hk).mono ?_;rintro e w' ⟨rfl,rfl⟩)
  go_end0
  exact ⟨rfl,A1,F1⟩
 ·have A1:Rar w p q (s.poke i v):=by rw [show s.poke i v=s by simp [St.poke,poke_no v e]];exact h'
  clear hp hq hc e
  go_enter Tryz.func56,Tryz.ntmps56
  go_wp2_with (go_at_call 80;refine (has_out _ p q s i h' hk).mono ?_;rintro e w' ⟨rfl,rfl⟩)
  go_end0
  exact ⟨rfl,A1,Fr.refl _ _⟩
theorem note_any (w:World) (p q:Nat) (s:St) (kind i was:Int) (ok:Bool) (h:Rar w p q s) :
  Calls Tryz.prog 118 #[.pointer (some ⟨p,0,none⟩),.int .i64 kind,.int .i64 i,.int .i64 was,.bool ok] w fun e w'=>e = .returned (.tuple #[])∧Rar w' p q (s.note kind i was ok)∧Fr [p] w w':=by
 have h':=h
 obtain ⟨ne,lo,hi,cap,c,hp,hc1,hc2,hq,hs,hc⟩:=h
 have h2:w.cell? ⟨p,1,none⟩=some (.int .i64 s.n):=by rw [cell_of_row w p 1 _ _ _ hp];rfl
 have h3:w.cell? ⟨p,2,none⟩=some (.int .i64 s.a.kind):=by rw [cell_of_row w p 2 _ _ _ hp];rfl
 have h4:w.cell? ⟨p,3,none⟩=some (.int .i64 s.a.at_):=by rw [cell_of_row w p 3 _ _ _ hp];rfl
 have h5:w.cell? ⟨p,4,none⟩=some (.int .i64 s.a.old):=by rw [cell_of_row w p 4 _ _ _ hp];rfl
 have h6:w.cell? ⟨p,5,none⟩=some (.int .i64 s.a.new):=by rw [cell_of_row w p 5 _ _ _ hp];rfl
 have h7:w.cell? ⟨p,6,none⟩=some (.bool s.a.ok):=by rw [cell_of_row w p 6 _ _ _ hp];rfl
 have hf:∀ j,w.frozen? ⟨p,j,none⟩=false:=fun j=>frozen_of_row _ _ _ _ _ hp
 have hf2:=hf 1
 have hf3:=hf 2
 have hf4:=hf 3
 have hf5:=hf 4
 have hf6:=hf 5
 have hf7:=hf 6
 have A1:Rar (w.setCell ⟨p,1,none⟩ (.int .i64 (wrap64 (s.n+1)))) p q ⟨s.l,inc s.n,s.a⟩:=by
  refine ⟨ne,lo,hi,cap,c,heap_setCell_same _ _ _ _ _ _ hp,hc1,hc2,?_,hs,hc⟩
  rw [heap_setCell_other _ _ _ _ (Ne.symm ne)];exact hq
 have A2:Rar ((((((w.setCell ⟨p,1,none⟩ (.int .i64 (wrap64 (s.n+1)))).setCell ⟨p,2,none⟩ (.int .i64 kind)).setCell ⟨p,3,none⟩ (.int .i64 i)).setCell ⟨p,4,none⟩ (.int .i64 was)).setCell ⟨p,5,none⟩ (.int .i64 (peek s.l i))).setCell ⟨p,6,none⟩ (.bool ok)) p q (s.note kind i was ok):=by
  refine ⟨ne,lo,hi,cap,c,heap_setCell_same _ _ _ _ _ _ (heap_setCell_same _ _ _ _ _ _ (heap_setCell_same _ _ _ _ _ _ (heap_setCell_same _ _ _ _ _ _ (heap_setCell_same _ _ _ _ _ _ (heap_setCell_same _ _ _ _ _ _ hp))))),hc1,hc2,?_,hs,hc⟩
  repeat rw [heap_setCell_other _ _ _ _ (Ne.symm ne)]
  exact hq
 have F2:Fr [p] w ((((((w.setCell ⟨p,1,none⟩ (.int .i64 (wrap64 (s.n+1)))).setCell ⟨p,2,none⟩ (.int .i64 kind)).setCell ⟨p,3,none⟩ (.int .i64 i)).setCell ⟨p,4,none⟩ (.int .i64 was)).setCell ⟨p,5,none⟩ (.int .i64 (peek s.l i))).setCell ⟨p,6,none⟩ (.bool ok)) :=
  (((((Fr.setCell _ (by simp)).setCell' _ (by simp)).setCell' _ (by simp)).setCell' _ (by simp)).setCell' _ (by simp)).setCell' _ (by simp)
 clear hf hp hq hc
 go_enter Tryz.func118,Tryz.ntmps118
 go_wp2_with fail
 go_wp2_with (go_at_call 28;refine (peek_any _ p q _ i A1).mono ?_;rintro e w' ⟨rfl,rfl⟩)
 go_end0
 exact ⟨rfl,A2,F2⟩
theorem load_any (w:World) (p q:Nat) (s:St) (i:Int) (h:Rar w p q s) :
  Calls Tryz.prog 71 #[.pointer (some ⟨p,0,none⟩),.int .i64 i] w fun e w'=>e = .returned (.int .i64 (peek s.l i))∧Rar w' p q (s.load i)∧Fr [p,q] w w':=by
 go_enter Tryz.func71,Tryz.ntmps71
 go_wp2_with (go_at_call 28;refine (peek_any _ p q _ i h).mono ?_;rintro e w' ⟨rfl,rfl⟩)
 refine (note_any _ p q s 1 i (peek s.l i) false h).mono ?_;rintro e w' ⟨rfl,A1,F1⟩
 go_wp2
 go_ret
 exact ⟨rfl,A1,F1.mono⟩
theorem store_any (w:World) (p q:Nat) (s:St) (i v:Int) (h:Rar w p q s) :
  Calls Tryz.prog 174 #[.pointer (some ⟨p,0,none⟩),.int .i64 i,.int .i64 v] w fun e w'=>e = .returned (.tuple #[])∧Rar w' p q (s.store i v)∧Fr [p,q] w w':=by
 go_enter Tryz.func174,Tryz.ntmps174
 go_wp2_with (go_at_call 28;refine (peek_any _ p q _ i h).mono ?_;rintro e w' ⟨rfl,rfl⟩)
 refine (poke_any _ p q s i v h).mono ?_;rintro e w1 ⟨rfl,A1,F1⟩
 go_wp2_with fail
 refine (note_any _ p q _ 2 i (peek s.l i) false A1).mono ?_;rintro e w2 ⟨rfl,A2,F2⟩
 go_wp2
 go_end0
 exact ⟨rfl,A2,(F1.mono).trans (F2.mono)⟩
theorem add_any (w:World) (p q:Nat) (s:St) (i v:Int) (h:Rar w p q s) :
  Calls Tryz.prog 196 #[.pointer (some ⟨p,0,none⟩),.int .i64 i,.int .i64 v] w fun e w'=>e = .returned (.int .i64 (peek s.l i))∧Rar w' p q (s.add i v)∧Fr [p,q] w w':=by
 go_enter Tryz.func196,Tryz.ntmps196
 go_wp2_with (go_at_call 28;refine (peek_any _ p q _ i h).mono ?_;rintro e w' ⟨rfl,rfl⟩)
 refine (poke_any _ p q s i (wrap64 (peek s.l i+v)) h).mono ?_;rintro e w1 ⟨rfl,A1,F1⟩
 go_wp2_with fail
 refine (note_any _ p q _ 4 i (peek s.l i) false A1).mono ?_;rintro e w2 ⟨rfl,A2,F2⟩
 go_wp2
 go_ret
 exact ⟨rfl,A2,(F1.mono).trans (F2.mono)⟩
theorem swap_any (w:World) (p q:Nat) (s:St) (i old v:Int) (h:Rar w p q s) :
  Calls Tryz.prog 74 #[.pointer (some ⟨p,0,none⟩),.int .i64 i,.int .i64 old,.int .i64 v] w fun e w'=>e = .returned (.bool (s.can i old))∧Rar w' p q (s.swap i old v)∧Fr [p,q] w w':=by
 cases hi:isAt s.l i
 ·have hc:s.can i old=false:=by simp [St.can,hi]
  rw [hc,show s.swap i old v=s.note 3 i (peek s.l i) false by rw [St.swap,if_neg (by simp [hc])]]
  go_enter Tryz.func74,Tryz.ntmps74
  go_wp2_with (first | (go_at_call 28;refine (peek_any _ p q _ i h).mono ?_;rintro e w' ⟨rfl,rfl⟩) | (go_at_call 80;refine (has_any _ p q _ i h).mono ?_;rintro e w' ⟨rfl,rfl⟩))
  refine (note_any _ p q _ 3 i (peek s.l i) false h).mono ?_;rintro e w2 ⟨rfl,A2,F2⟩
  go_wp2
  go_ret
  exact ⟨rfl,A2,F2.mono⟩
 ·cases ho:(peek s.l i == old)
  ·have hc:s.can i old=false:=by simp [St.can,hi,ho]
   rw [hc,show s.swap i old v=s.note 3 i (peek s.l i) false by rw [St.swap,if_neg (by simp [hc])]]
   go_enter Tryz.func74,Tryz.ntmps74
   go_wp2_with (first | (go_at_call 28;refine (peek_any _ p q _ i h).mono ?_;rintro e w' ⟨rfl,rfl⟩) | (go_at_call 80;refine (has_any _ p q _ i h).mono ?_;rintro e w' ⟨rfl,rfl⟩))
   refine (note_any _ p q _ 3 i (peek s.l i) false h).mono ?_;rintro e w2 ⟨rfl,A2,F2⟩
   go_wp2
   go_ret
   exact ⟨rfl,A2,F2.mono⟩
  ·have hc:s.can i old=true:=by simp [St.can,hi,ho]
   rw [hc,show s.swap i old v=(s.poke i v).note 3 i (peek s.l i) true by rw [St.swap,if_pos hc]]
   go_enter Tryz.func74,Tryz.ntmps74
   go_wp2_with (first | (go_at_call 28;refine (peek_any _ p q _ i h).mono ?_;rintro e w' ⟨rfl,rfl⟩) | (go_at_call 80;refine (has_any _ p q _ i h).mono ?_;rintro e w' ⟨rfl,rfl⟩))
   refine (poke_any _ p q s i v h).mono ?_;rintro e w1 ⟨rfl,A1,F1⟩
   go_wp2_with fail
   refine (note_any _ p q _ 3 i (peek s.l i) true A1).mono ?_;rintro e w2 ⟨rfl,A2,F2⟩
   go_wp2
   go_ret
   exact ⟨rfl,A2,(F1.mono).trans (F2.mono)⟩
def RMade (w:World) (s:St) (e:Ending) (w':World):Prop:=∃ p q,e = .returned (.pointer (some ⟨p,0,none⟩))∧w.heap.size≤p∧w.heap.size≤q∧Rar w' p q s∧Fr [] w w'
theorem intInfo:(Tryz.prog.info? 3).map (fun i=>(i.zero,i.size,i.bytes))=some (some (.int .i64 0),1,8):=by kernel_rfl
theorem made_rar {w w1:World} (n:Nat) (lo:1≤n) (hi:n≤20000) (hown:w1.ownsRow 0 3 1 (.slice (some ⟨w.heap.size,0,none⟩) n n) n (madeCells (Value.int .i64 0).cells (n * 1)).toList) (hg:w.grownBy w1 none) (hne:w.heap.size<w1.heap.size) :
  RMade w (St.fresh n) (.returned (.pointer (some ⟨w1.heap.size,0,none⟩))) (w1.alloc (.cells #[.slice (some ⟨w.heap.size,0,none⟩) n n,.int .i64 0,.int .i64 0,.int .i64 0,.int .i64 0,.int .i64 0,.bool false] 47)):=by
 refine ⟨w1.heap.size,w.heap.size,rfl,by omega,Nat.le_refl _,?_,(Fr.grown hg).alloc _⟩
 obtain ⟨h1,h2⟩:=hown
 rcases h2 with ⟨h2,_⟩ | ⟨g,cap,cur,hv,-,hh,hc1,hc2,hsz,htk⟩
 ·cases h2
 ·simp only [Value.slice.injEq,Option.some.injEq,Addr.mk.injEq] at hv
  obtain ⟨⟨rfl,-,-⟩,-,rfl⟩:=hv
  refine ⟨by omega,by simpa [St.fresh] using lo,by simpa [St.fresh] using hi,n,cur,?_,by simp [St.fresh],hc2,?_,by simpa using hsz,?_⟩
  ·rw [Go.heap_alloc_new];simp [rarHead,St.fresh]
  ·rw [heap_alloc_old _ _ hne];exact hh
  ·intro i hi'
   simp only [St.fresh,List.length_replicate] at hi'
   have e1:cur.toList[i]? = (madeCells (Value.int .i64 0).cells (n * 1)).toList[i]?:=by
    rw [← htk,List.getElem?_take_of_lt (by omega)]
   rw [show (Value.int .i64 0).cells = #[.int .i64 0] from rfl,toList_madeCells_one,List.getElem?_replicate,if_pos (by omega)] at e1
   rw [Array.getElem?_toList] at e1
   rw [e1,nth,St.fresh,List.getD_eq_getElem?_getD,List.getElem?_replicate,if_pos hi']
   rfl
theorem held_any (n:Nat) (i:Int) (hn:(i<1∧n=1)∨(1≤i∧i≤20000∧i=n)∨(20000<i∧n=20000)) (w:World) :
  Calls Tryz.prog 82 #[.int .i64 i,.int .i64 1,.int .i64 20000] w fun e w'=>e = .returned (.int .i64 n)∧w=w':=by
 rcases hn with ⟨h1,rfl⟩ | ⟨h1,h2,rfl⟩ | ⟨h1,rfl⟩
 all_goals
  go_enter Tryz.func82,Tryz.ntmps82
  go_wp2
  all_goals go_ret
  all_goals (first | exact ⟨rfl,rfl⟩ | exact ret_int (by omega))
theorem new_at (n:Nat) (i:Int) (lo:1≤n) (hi:n≤20000) (hn:(i<1∧n=1)∨(1≤i∧i≤20000∧i=n)∨(20000<i∧n=20000)) (w:World) :
  Calls Tryz.prog 67 #[.int .i64 i] w (RMade w (St.fresh n)):=by
 obtain ⟨i0,h0,hz0,hz1,hz2⟩:=info_parts intInfo
 have HH:=held_any n i hn w
 clear hn
 go_enter Tryz.func67,Tryz.ntmps67
 go_wp2_with (first | (go_at_call 82;refine HH.mono ?_;rintro e w' ⟨rfl,rfl⟩) | (at_make;refine wpList_make_full _ rfl _ _ 25 rfl 0 3 i0 (.int .i64 0) 1 Tryz.underlying25 h0 hz0 hz1 _ _ _ _ n rfl rfl rfl rfl (by rw [hz2];omega) (by unfold maxLen;omega) (Nat.zero_le _) ?_;intro w1 hown hg;have hM:=made_rar n lo hi hown hg (own_lt hown);clear hown))
 go_ret
 exact hM
end Go.Proofs.YtilipdnchflkhaaGreatDoor.Ref
