/- Parts. -/
import Derived.Test.YtppajakfaomkaaaGreatDoorYaa
import Derived.Test.YtppajakfaomkaaaGreatDoorYaf
import Derived.Test.YtppajakfaomkaaaGreatDoorYal
import Derived.Test.YtppajakfaomkaaaGreatDoorYam
import Derived.ChangeKeysEq
import Derived.WalkSpells
set_option linter.unusedVariables false
set_option linter.unusedSimpArgs false
set_option maxRecDepth 100000
set_option maxHeartbeats 12800000
namespace Go.Proofs.YtppajakfaomkaaaGreatDoor.Vw
open Go.RowKit Ar Mx
structure Ce where
 s:Int
 k:Int
 d:Int
deriving DecidableEq
def fC (x:Ce):List Value:=[.int .i64 x.s,.int .i64 x.k,.int .i64 x.d]
theorem Z8:Lays fC 3:=⟨fun _=>rfl,fun x u hu=>by simp [fC] at hu;rcases hu with rfl | rfl | rfl <;> rfl,by decide⟩
theorem ceI:(Tryz.prog.info? 179).map (fun i=>(i.zero,i.size,i.bytes))=some (some (.agg #[.int .i64 0,.int .i64 0,.int .i64 0]),3,24):=by kernel_rfl
structure Hd where
 at_:Int
 mn:Int
 ct:Int
 nx:Int
 ld:Int
 mt:Int
 rp:Int
 st:Int
deriving DecidableEq
def chV (h:Hd) (lv:Value):Value:=.agg #[.int .i64 h.at_,.int .i64 h.mn,.int .i64 h.ct,.int .i64 h.nx,.int .i64 h.ld,.int .i64 h.mt,.int .i64 h.rp,.int .i64 h.st,lv]
def chC (h:Hd) (lv:Value):Array Value:=#[.int .i64 h.at_,.int .i64 h.mn,.int .i64 h.ct,.int .i64 h.nx,.int .i64 h.ld,.int .i64 h.mt,.int .i64 h.rp,.int .i64 h.st,lv]
theorem q1g {w:World} {b:Nat} {T:TypeId} {h:Hd} {lv:Value} (o:Ob w b T (chC h lv)):w.cell? ⟨b,0,none⟩=some (.int .i64 h.at_)/\w.cell? ⟨b,1,none⟩=some (.int .i64 h.mn)/\w.cell? ⟨b,2,none⟩=some (.int .i64 h.ct)/\w.cell? ⟨b,3,none⟩=some (.int .i64 h.nx)/\w.cell? ⟨b,4,none⟩=some (.int .i64 h.ld)/\w.cell? ⟨b,5,none⟩=some (.int .i64 h.mt)/\w.cell? ⟨b,6,none⟩=some (.int .i64 h.rp)/\w.cell? ⟨b,7,none⟩=some (.int .i64 h.st)/\w.cell? ⟨b,8,none⟩=some lv :=
 ⟨o.cell rfl,o.cell rfl,o.cell rfl,o.cell rfl,o.cell rfl,o.cell rfl,o.cell rfl,o.cell rfl,o.cell rfl⟩
def qdd (w:World) (v:Value) (h:Hd) (cs:List Ce):Prop:=∃ lv,v=chV h lv/\Sq fC w lv cs
theorem qdd.up {w w':World} {v:Value} {h:Hd} {cs:List Ce} (k:qdd w v h cs) (f:Fr [] w w'):qdd w' v h cs:=by
 obtain ⟨lv,rfl,s⟩:=k
 exact ⟨lv,rfl,s.up f⟩
def qdj (s:Int):Int:=if s<3 then -1 else wrap64 (s - 3)
def qbn (c:Ce):Option It:=if 3<=c.s then some ⟨c.k,qdj c.s,c.d⟩ else none
def Vu (cs:List Ce):List It:=cs.filterMap qbn
theorem qay (s:Int) (w:World):Calls Tryz.prog 147 #[.int .i64 s] w fun e w'=>e = .returned (.int .i64 (qdj s))/\w=w':=by
 by_cases c:s<3
 all_goals
  go_enter Tryz.func147,Tryz.ntmps147
  go_wp2
  go_ret
  exact Uc (by unfold qdj;first | (rw [qf (by omega)];done) | (rw [qd (by omega)];done))
theorem q9w (x y:Ce) (W:World):(binOp .neq 179 (.agg #[.int .i64 x.s,.int .i64 x.k,.int .i64 x.d]) (.agg #[.int .i64 y.s,.int .i64 y.k,.int .i64 y.d])).run Tryz.prog W = .ok (.bool (decide (x≠y))) W:=by
 obtain ⟨k,i,o⟩:=x
 obtain ⟨k',i',o'⟩:=y
 have u3:=Tryz.underlying3
 have a3:(isAgg 3).run Tryz.prog W = .ok false W:=by kernel_rfl
 have hS:Tryz.prog.underlying 179=some (.struct (Tryz.prog.fieldsOf 179)):=by kernel_rfl
 have hp:Tryz.prog.stoodInHeld 179=false:=by kernel_rfl
 rw [run_neq_struct,show (10000:Nat)=9999+1 from rfl,run_equalIn_agg W 9999 179 _ _ hS hp]
 simp only [Program.fieldsOf,Tryz.underlying179]
 go_simp
 by_cases h1:k=k' <;> by_cases h2:i=i' <;> by_cases h3:o=o' <;> simp [h1,h2,h3]
theorem q1q {w:World} {a:Option Addr} {n cap i:Nat} {xs:List Ce} {x:Ce} (h:Sq fC w (.slice a n cap) xs) (hi:xs[i]? = some x) :
  ∃ g off,a=some ⟨g,off,none⟩/\w.cell? ⟨g,off+i * 3,none⟩=some (.int .i64 x.s)/\w.cell? ⟨g,off+i * 3+1,none⟩=some (.int .i64 x.k)/\w.cell? ⟨g,off+i * 3+2,none⟩=some (.int .i64 x.d):=by
 obtain ⟨-,g,off,rfl,hc⟩:=Sq.cell Z8 h hi
 exact ⟨g,off,rfl,hc 0 _ rfl,hc 1 _ rfl,hc 2 _ rfl⟩
theorem qat {cs:List Ce} {i:Nat} {x:Ce} (hx:cs[i]? = some x):Vu (cs.take (i+1))=Vu (cs.take i)++(qbn x).toList:=by
 unfold Vu
 rw [List.take_add_one,hx,Option.toList_some,List.filterMap_append]
 cases h:qbn x <;> simp [h]
theorem q8j (cs:List Ce):(Vu cs).length<=cs.length:=by unfold Vu;exact List.length_filterMap_le _ _
def ItAt (w:World) (cs:List Ce) (u x:Value) (wr:World):Prop:=∃ i,i<=cs.length/\x = .int .i64 (i:Nat)/\wr.ownsRow w.heap.size 99 3 u (Vu (cs.take i)).length ((Vu (cs.take i)).flatMap fT)/\Fr [] w wr
end Go.Proofs.YtppajakfaomkaaaGreatDoor.Vw
namespace Go.Proofs.YtppajakfaomkaaaGreatDoor.Mp
open Go.RowKit Ar
structure An where
 code:Int
 found:Bool
 val:Int
 writer:Int
 version:Int
 pairs:List (Int×Int)
def Yj (a:An) (pv:Value):Value:=.agg #[.int .i64 a.code,.bool a.found,.int .i64 a.val,.int .i64 a.writer,.int .i64 a.version,pv]
end Go.Proofs.YtppajakfaomkaaaGreatDoor.Mp
namespace Go.Proofs.YtppajakfaomkaaaGreatDoor.Vw
open Go.RowKit Ar Mx
def Wv (n:Nat) (c at_:Int):Bool:=decide (0<=at_) && decide (at_<=n - (7+3 * c))
def qch (l:List Int) (a:Int):Hd:=⟨a,qq l a,qq l (a+1),qq l (a+2),qq l (a+3),qq l (a+4),qq l (a+5),qq l (a+6)⟩
def cellOf (l:List Int) (a:Int) (i:Nat):Ce:=⟨qq l (a+7+3 * i),qq l (a+7+3 * i+1),qq l (a+7+3 * i+2)⟩
def cellsOf (l:List Int) (a:Int) (n:Nat):List Ce:=(List.range n).map (cellOf l a)
theorem set3 {cur:Array Value} {i:Nat} (x y z:Value) (h:3 * i+3<=cur.size):(((cur.setIfInBounds (i * 3) x).setIfInBounds (i * 3+1) y).setIfInBounds (i * 3+2) z).toList.take (3 * (i+1))=cur.toList.take (3 * i)++[x,y,z]:=by
 obtain ⟨l⟩:=cur
 simp only [Array.toList_setIfInBounds] at h ⊢
 simp only [List.size_toArray] at h
 apply List.ext_getElem?
 intro j
 simp only [List.getElem?_take,List.getElem?_append,List.getElem?_set,List.length_take,List.length_set]
 by_cases h1:j<3 * i
 ·rw [qf (by omega),qd (by omega),qd (by omega),qd (by omega),qf (by omega),qf h1]
 ·rw [qd (show ¬ j<min (3 * i) l.length by omega)]
  by_cases h2:j<3 * (i+1)
  ·rw [qf h2]
   have h3:j=i * 3\/j=i * 3+1\/j=i * 3+2:=by omega
   have hm:min (3 * i) l.length=i * 3:=by omega
   rw [hm]
   rcases h3 with rfl | rfl | rfl
   ·rw [qd (by omega),qd (by omega),qf rfl,qf (by omega)];simp
   ·rw [qd (by omega),qf rfl,qf (by omega),show i * 3+1 - i * 3=1 by omega];rfl
   ·rw [qf rfl,qf (by omega),show i * 3+2 - i * 3=2 by omega];rfl
  ·rw [qd h2,show min (3 * i) l.length=3 * i by omega]
   have:∃ k,j - 3 * i=k+3:=⟨j - 3 * i - 3,by omega⟩
   obtain ⟨k,hk⟩:=this
   rw [hk];rfl
theorem qa0 (l:List Int) (a:Int) (n:Nat):(cellsOf l a (n+1)).flatMap fC=(cellsOf l a n).flatMap fC++fC (cellOf l a n):=by
 unfold cellsOf;rw [List.range_succ,List.map_append,List.flatMap_append];simp
def CsAt (w:World) (l:List Int) (a:Int) (b n:Nat) (x:Value) (wr:World):Prop:=∃ i cur,i<=n/\x = .int .i64 (i:Nat)/\Ob wr b 179 cur/\cur.size=3 * n/\cur.toList.take (3 * i)=(cellsOf l a i).flatMap fC/\Fr [] w wr
def CsMade (w:World) (cs:List Ce) (e:Ending) (w':World):Prop:=∃ b,e = .returned (.slice (some ⟨b,0,none⟩) cs.length cs.length)/\w.heap.size<=b/\Ob w' b 179 (cs.flatMap fC).toArray/\Fr [] w w'
theorem sets9 (x0 x1 x2 x3 x4 x5 x6 x7 x8 y0 y1 y2 y3 y4 y5 y6 y7 y8:Value):((((((((((#[x0,x1,x2,x3,x4,x5,x6,x7,x8]:Array Value).setIfInBounds 0 y0).setIfInBounds 1 y1).setIfInBounds 2 y2).setIfInBounds 3 y3).setIfInBounds 4 y4).setIfInBounds 5 y5).setIfInBounds 6 y6).setIfInBounds 7 y7).setIfInBounds 8 y8) = #[y0,y1,y2,y3,y4,y5,y6,y7,y8]:=by kernel_rfl
def ChMade (w:World) (h:Hd) (cs:List Ce) (e:Ending) (w':World):Prop:=∃ b,e = .returned (.tuple #[chV h (.slice (some ⟨b,0,none⟩) cs.length cs.length),.nilIface])/\w.heap.size<=b/\Ob w' b 179 (cs.flatMap fC).toArray/\Fr [] w w'
end Go.Proofs.YtppajakfaomkaaaGreatDoor.Vw
