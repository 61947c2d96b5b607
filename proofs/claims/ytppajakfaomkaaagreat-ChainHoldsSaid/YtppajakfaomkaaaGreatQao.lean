/- Parts. -/
import Derived.Test.YtppajakfaomkaaaGreatQaa
import Derived.Test.YtppajakfaomkaaaGreatQaf
import Derived.Test.YtppajakfaomkaaaGreatQal
import Derived.Test.YtppajakfaomkaaaGreatQam
import Derived.ChangeKeysEq
import Derived.WalkSpells
set_option linter.unusedVariables false
set_option linter.unusedSimpArgs false
set_option maxRecDepth 100000
set_option maxHeartbeats 12800000
namespace Go.Proofs.YtppajakfaomkaaaGreat.Vw
open Go.RowKit Ar Mx
structure Ce where
 s:Int
 k:Int
 d:Int
deriving DecidableEq
def fC (x:Ce):List Value:=[.int .i64 x.s,.int .i64 x.k,.int .i64 x.d]
theorem Zd:Lays fC 3:=⟨fun _=>rfl,fun x u hu=>by simp [fC] at hu;rcases hu with rfl | rfl | rfl <;> rfl,by decide⟩
theorem ceI:(Tryz.prog.info? 138).map (fun i=>(i.zero,i.size,i.bytes))=some (some (.agg #[.int .i64 0,.int .i64 0,.int .i64 0]),3,24):=by kernel_rfl
structure Hd where
 at_:Int
 mn:Int
 ct:Int
 nx:Int
 ld:Int
 mt:Int
 rp:Int
 st:Int
deriving DecidableEq
def chV (h:Hd) (lv:Value):Value:=.agg #[.int .i64 h.at_,.int .i64 h.mn,.int .i64 h.ct,.int .i64 h.nx,.int .i64 h.ld,.int .i64 h.mt,.int .i64 h.rp,.int .i64 h.st,lv]
def chC (h:Hd) (lv:Value):Array Value:=#[.int .i64 h.at_,.int .i64 h.mn,.int .i64 h.ct,.int .i64 h.nx,.int .i64 h.ld,.int .i64 h.mt,.int .i64 h.rp,.int .i64 h.st,lv]
theorem yz {w:World} {b:Nat} {T:TypeId} {h:Hd} {lv:Value} (o:Ob w b T (chC h lv)):w.cell? ⟨b,0,none⟩=some (.int .i64 h.at_)/\w.cell? ⟨b,1,none⟩=some (.int .i64 h.mn)/\w.cell? ⟨b,2,none⟩=some (.int .i64 h.ct)/\w.cell? ⟨b,3,none⟩=some (.int .i64 h.nx)/\w.cell? ⟨b,4,none⟩=some (.int .i64 h.ld)/\w.cell? ⟨b,5,none⟩=some (.int .i64 h.mt)/\w.cell? ⟨b,6,none⟩=some (.int .i64 h.rp)/\w.cell? ⟨b,7,none⟩=some (.int .i64 h.st)/\w.cell? ⟨b,8,none⟩=some lv :=
 ⟨o.cell rfl,o.cell rfl,o.cell rfl,o.cell rfl,o.cell rfl,o.cell rfl,o.cell rfl,o.cell rfl,o.cell rfl⟩
def qb3 (w:World) (v:Value) (h:Hd) (cs:List Ce):Prop:=∃ lv,v=chV h lv/\Sq fC w lv cs
theorem qb3.up {w w':World} {v:Value} {h:Hd} {cs:List Ce} (k:qb3 w v h cs) (f:Fr [] w w'):qb3 w' v h cs:=by
 obtain ⟨lv,rfl,s⟩:=k
 exact ⟨lv,rfl,s.up f⟩
def qbc (s:Int):Int:=if s<3 then -1 else wrap64 (s - 3)
def Tz (c:Ce):Option It:=if 3<=c.s then some ⟨c.k,qbc c.s,c.d⟩ else none
def vq (cs:List Ce):List It:=cs.filterMap Tz
theorem q0k (s:Int) (w:World):Calls Tryz.prog 79 #[.int .i64 s] w fun e w'=>e = .returned (.int .i64 (qbc s))/\w=w':=by
 by_cases c:s<3
 all_goals
  go_enter Tryz.func79,Tryz.ntmps79
  go_wp2
  go_ret
  exact Ut (by unfold qbc;first | (rw [qf (by omega)];done) | (rw [qd (by omega)];done))
theorem qb0 (x y:Ce) (W:World):(binOp .neq 138 (.agg #[.int .i64 x.s,.int .i64 x.k,.int .i64 x.d]) (.agg #[.int .i64 y.s,.int .i64 y.k,.int .i64 y.d])).run Tryz.prog W = .ok (.bool (decide (x≠y))) W:=by
 obtain ⟨k,i,o⟩:=x
 obtain ⟨k',i',o'⟩:=y
 have u3:=Tryz.underlying3
 have a3:(isAgg 3).run Tryz.prog W = .ok false W:=by kernel_rfl
 have hS:Tryz.prog.underlying 138=some (.struct (Tryz.prog.fieldsOf 138)):=by kernel_rfl
 have hp:Tryz.prog.stoodInHeld 138=false:=by kernel_rfl
 rw [run_neq_struct,show (10000:Nat)=9999+1 from rfl,run_equalIn_agg W 9999 138 _ _ hS hp]
 simp only [Program.fieldsOf,Tryz.underlying138]
 go_simp
 by_cases h1:k=k' <;> by_cases h2:i=i' <;> by_cases h3:o=o' <;> simp [h1,h2,h3]
theorem Uj {w:World} {a:Option Addr} {n cap i:Nat} {xs:List Ce} {x:Ce} (h:Sq fC w (.slice a n cap) xs) (hi:xs[i]? = some x) :
  ∃ g off,a=some ⟨g,off,none⟩/\w.cell? ⟨g,off+i * 3,none⟩=some (.int .i64 x.s)/\w.cell? ⟨g,off+i * 3+1,none⟩=some (.int .i64 x.k)/\w.cell? ⟨g,off+i * 3+2,none⟩=some (.int .i64 x.d):=by
 obtain ⟨-,g,off,rfl,hc⟩:=Sq.cell Zd h hi
 exact ⟨g,off,rfl,hc 0 _ rfl,hc 1 _ rfl,hc 2 _ rfl⟩
theorem q0x {cs:List Ce} {i:Nat} {x:Ce} (hx:cs[i]? = some x):vq (cs.take (i+1))=vq (cs.take i)++(Tz x).toList:=by
 unfold vq
 rw [List.take_add_one,hx,Option.toList_some,List.filterMap_append]
 cases h:Tz x <;> simp [h]
theorem Q0 (cs:List Ce):(vq cs).length<=cs.length:=by unfold vq;exact List.length_filterMap_le _ _
def ItAt (w:World) (cs:List Ce) (u x:Value) (wr:World):Prop:=∃ i,i<=cs.length/\x = .int .i64 (i:Nat)/\wr.ownsRow w.heap.size 89 3 u (vq (cs.take i)).length ((vq (cs.take i)).flatMap fT)/\Fr [] w wr
theorem Je (h:Hd) (cs:List Ce) (v:Value) (w:World) (hl:cs.length<=1000) (hv:qb3 w v h cs) :
  Calls Tryz.prog 47 #[v] w fun e w'=>(∃ u,e = .returned u/\w'.ownsRow w.heap.size 89 3 u (vq cs).length ((vq cs).flatMap fT))/\Fr [] w w':=by
 obtain ⟨lv,rfl,hs⟩:=hv
 obtain ⟨a,cap,rfl,hcap,hmax,-⟩:=id hs
 unfold chV
 obtain ⟨-,-,-,-,-,-,-,-,c8⟩:=yz (Ob.new w 72 (chC h (.slice a cs.length cap)))
 unfold chC at c8
 have F0:=(Fr.refl [] w).alloc (.cells #[.int .i64 h.at_,.int .i64 h.mn,.int .i64 h.ct,.int .i64 h.nx,.int .i64 h.ld,.int .i64 h.mt,.int .i64 h.rp,.int .i64 h.st,.slice a cs.length cap] 72)
 go_enter Tryz.func47,Tryz.ntmps47
 go_wp2_with fail
 have hs0:=hs.up F0
 have hlen0:=F0.size
 clear c8
 generalize (w.alloc (.cells #[.int .i64 h.at_,.int .i64 h.mn,.int .i64 h.ct,.int .i64 h.nx,.int .i64 h.ld,.int .i64 h.mt,.int .i64 h.rp,.int .i64 h.st,.slice a cs.length cap] 72))=w0 at *
 go_loopw [3,9] (ItAt w cs) (fun _ x _=>cs.length - (intOf x).toNat)
 case atStart=>exact ⟨0,by omega,rfl,⟨rfl,.inl ⟨rfl,rfl⟩⟩,F0⟩
 case round =>
  obtain ⟨i,hi,rfl,hr,F⟩:=hrel
  by_cases hlt:i<cs.length
  ·obtain ⟨x,hx⟩:∃ x,cs[i]? = some x:=⟨cs[i],List.getElem?_eq_getElem hlt⟩
   obtain ⟨g,off,rfl,d0,d1,d2⟩:=Uj (hs.up F) hx
   have hN:=q9 (q0x hx)
   have hLI:=q9 (qh (Q0 (cs.take i)) (by rw [List.length_take];omega:(cs.take i).length<=1000))
   have F1:=(Fr.refl [] wr).alloc (.cells #[.int .i64 x.s,.int .i64 x.k,.int .i64 x.d] 138)
   have o1:=Ob.new wr 138 #[.int .i64 x.s,.int .i64 x.k,.int .i64 x.d]
   have r1:=qm hr F1
   by_cases h3:3<=x.s
   ·have g1:decide (x.s≥3)=true:=by simpa using h3
    have hI:Tz x=some ⟨x.k,qbc x.s,x.d⟩:=by unfold Tz;rw [qf h3]
    go_wp2_with fail
    have FW:=F.trans F1
    generalize (wr.alloc (.cells #[.int .i64 x.s,.int .i64 x.k,.int .i64 x.d] 138))=w5 at *
    clear hr
    refine qx (by kernel_rfl) u3.ownBlock.toList (fun w2 F2=>?_)
    refine epq [true,true,true,true,true,true,true,true,true,false,false,false] 3 (F2.mono) ?_
    apply qg
    refine ⟨fun wf Ff=>?_,?_⟩
    ·have of:=Ob.kept o1 Ff (jd r1 o1 (by decide))
     have k0:=qb (of.cell (i:=0) rfl)
     have k1:=qb (of.cell (i:=1) rfl)
     have k2:=qb (of.cell (i:=2) rfl)
     clear of
     simp only [sel]
     repeat (go_big_quiet_step ((go_at_call 79;exact Calls.in_same (q0k _ _))))
     exact wpQuiet_nil rfl
    have HI:=q9 hI
    clear hI h3 g1 o1
    refine eoq 9 (fun w3 F3=>?_)
    have r3:=qm r1 (F2.trans F3)
    have G:=FW.trans (F2.trans F3)
    have M:=(F2.trans F3).size
    have E:=(F2.trans F3).mono (T:=u3.ownBlock.toList) (by simp)
    clear r1 F2 F3
    go_wp2_with fail
    have F4:=(Fr.refl [] w3).alloc (.cells #[.int .i64 x.k,.int .i64 (qbc x.s),.int .i64 x.d] 89)
    have o4:=Ob.new w3 89 #[.int .i64 x.k,.int .i64 (qbc x.s),.int .i64 x.d]
    refine ql ⟨E.then F4,?_⟩
    refine eoq 10 (fun w6 F6=>?_)
    have r6:=qm r3 (F4.trans F6)
    have o6:=o4.up F6
    replace G:=G.trans (F4.trans F6)
    replace E:=E.then (F4.trans F6)
    clear r3 o4 F4 F6
    go_wp2_with (at_builtin;refine qp za rfl _ _ 108 rfl Tryz.underlying108 itI rfl (B:=w.heap.size) _ _ rfl r6 _ [⟨x.k,qbc x.s,x.d⟩] rfl (Sq.block o6 rfl rfl (Nat.le_refl _) (by simp [maxLen])) (by have:=hLI.out;simp <;> omega) (by decide) G.size ?_;intro a7 c7 w7 r7 F7;generalize hT:vq (cs.take i)++[(⟨x.k,qbc x.s,x.d⟩:It)]=T at r7 ⊢)
    refine ql ⟨E.trans F7,?_⟩
    refine eoq 11 (fun w8 F8=>?_)
    have hn:vq (cs.take (i+1))=T:=by rw [hN.out,HI.out,<- hT];rfl
    have r8:=qm r7 F8
    replace G:=(G.own F7 (z6 r6)).trans F8
    replace E:=(E.trans F7).then F8
    rw [<- hn] at r8 ⊢
    clear r7 r6 o6 F7 F8 hn hT
    go_wp2
    refine ql ⟨E,?_⟩
    refine zl (by kernel_rfl) (fun w9 F9=>?_)
    have r9:=qm r8 F9
    replace G:=G.trans F9
    clear r8 F9 E
    go_wp2
    exact ⟨⟨i+1,by omega,by go_num,r9,G⟩,by simp [intOf];omega⟩
   ·have g1:decide (x.s≥3)=false:=by simpa using h3
    have hI:Tz x=none:=by unfold Tz;rw [qd h3]
    have hn:=hN.out
    rw [hI,Option.toList_none,List.append_nil] at hn
    have HN:=q9 hn
    clear hn hI hr o1
    go_wp2_with fail
    exact ⟨⟨i+1,by omega,by go_num,by rw [HN.out];exact r1,F.trans F1⟩,by simp [intOf];omega⟩
  ·obtain rfl:i=cs.length:=by omega
   rw [List.take_length] at hr
   have HR:=q9 hr
   clear hr
   go_wp2
   go_ret
   exact ⟨⟨_,rfl,HR.out⟩,F⟩
end Go.Proofs.YtppajakfaomkaaaGreat.Vw
namespace Go.Proofs.YtppajakfaomkaaaGreat.Mp
open Go.RowKit Ar
structure An where
 code:Int
 found:Bool
 val:Int
 writer:Int
 version:Int
 pairs:List (Int×Int)
def Yb (a:An) (pv:Value):Value:=.agg #[.int .i64 a.code,.bool a.found,.int .i64 a.val,.int .i64 a.writer,.int .i64 a.version,pv]
end Go.Proofs.YtppajakfaomkaaaGreat.Mp
namespace Go.Proofs.YtppajakfaomkaaaGreat.Vw
open Go.RowKit Ar Mx
def Z3 (n:Nat) (c at_:Int):Bool:=decide (0<=at_) && decide (at_<=n - (7+3 * c))
def Sd (l:List Int) (a:Int):Hd:=⟨a,qq l a,qq l (a+1),qq l (a+2),qq l (a+3),qq l (a+4),qq l (a+5),qq l (a+6)⟩
def cellOf (l:List Int) (a:Int) (i:Nat):Ce:=⟨qq l (a+7+3 * i),qq l (a+7+3 * i+1),qq l (a+7+3 * i+2)⟩
def cellsOf (l:List Int) (a:Int) (n:Nat):List Ce:=(List.range n).map (cellOf l a)
theorem Re (t c wd v a:Int) (p q:Nat) (s:St) (w:World) (h1:1<=c) (h2:c<=16) (h3:c<=s.l.length) (h4:s.l.length<=20000) (hA:Ar w p q s) :
  Calls Tryz.prog 77 #[.agg #[.int .i64 t,.int .i64 c,.int .i64 wd,.int .i64 v],.pointer (some ⟨p,0,none⟩),.int .i64 a] w fun e w'=>e = .returned (.bool (Z3 s.l.length c a))/\Fr [] w w':=by
 have F0:=(Fr.refl [] w).alloc (.cells #[.int .i64 t,.int .i64 c,.int .i64 wd,.int .i64 v] 23)
 obtain ⟨c0,c1,c2,c3⟩:=Pl.xc (Go.heap_alloc_new w (.cells #[.int .i64 t,.int .i64 c,.int .i64 wd,.int .i64 v] 23))
 have A0:=hA.kept F0
 have g1:decide (c≥0)=true:=by simp;omega
 have g2:decide (c<=(s.l.length:Int))=true:=by simp;omega
 have hr:Z3 s.l.length c a=(decide (0<=a) && decide (a<=(s.l.length:Int) - (7+3 * c))):=rfl
 have k0:=qb c0
 have k1:=qb c1
 have k2:=qb c2
 have k3:=qb c3
 clear c0 c1 c2 c3
 by_cases g3:0<=a
 ·have g3':decide (a≥0)=true:=by simpa using g3
  rw [hr,show decide (0<=a)=true from g3',Bool.true_and]
  clear hr
  go_enter Tryz.func77,Tryz.ntmps77
  go_wp2_with fail
  refine wiq ?_
  repeat (go_big_quiet_step ((first | (go_at_call 106;exact Calls.in_same (q6v _ p q s (A0.kept (In.fr _) (by simp) (by simp)))) | (go_at_call 80;exact Calls.in_ (Pl.Z7 t c wd v h1 h2 _)))))
  refine wpQuiet_nil ?_
  intro w2 F2
  clear k0 k1 k2 k3 g1 g2
  go_wp2
  go_ret
  exact ⟨rfl,F0.trans F2⟩
 ·have g3':decide (a≥0)=false:=by simpa using g3
  rw [hr,show decide (0<=a)=false from g3',Bool.false_and]
  clear hr
  go_enter Tryz.func77,Tryz.ntmps77
  go_wp2_with fail
  refine wiq ?_
  repeat (go_big_quiet_step ((first | (go_at_call 106;exact Calls.in_same (q6v _ p q s (A0.kept (In.fr _) (by simp) (by simp)))) | (go_at_call 80;exact Calls.in_ (Pl.Z7 t c wd v h1 h2 _)))))
  refine wpQuiet_nil ?_
  intro w2 F2
  clear k0 k1 k2 k3 g1 g2
  go_wp2
  go_ret
  exact ⟨rfl,F0.trans F2⟩
theorem set3 {cur:Array Value} {i:Nat} (x y z:Value) (h:3 * i+3<=cur.size):(((cur.setIfInBounds (i * 3) x).setIfInBounds (i * 3+1) y).setIfInBounds (i * 3+2) z).toList.take (3 * (i+1))=cur.toList.take (3 * i)++[x,y,z]:=by
 obtain ⟨l⟩:=cur
 simp only [Array.toList_setIfInBounds] at h ⊢
 simp only [List.size_toArray] at h
 apply List.ext_getElem?
 intro j
 simp only [List.getElem?_take,List.getElem?_append,List.getElem?_set,List.length_take,List.length_set]
 by_cases h1:j<3 * i
 ·rw [qf (by omega),qd (by omega),qd (by omega),qd (by omega),qf (by omega),qf h1]
 ·rw [qd (show ¬ j<min (3 * i) l.length by omega)]
  by_cases h2:j<3 * (i+1)
  ·rw [qf h2]
   have h3:j=i * 3\/j=i * 3+1\/j=i * 3+2:=by omega
   have hm:min (3 * i) l.length=i * 3:=by omega
   rw [hm]
   rcases h3 with rfl | rfl | rfl
   ·rw [qd (by omega),qd (by omega),qf rfl,qf (by omega)];simp
   ·rw [qd (by omega),qf rfl,qf (by omega),show i * 3+1 - i * 3=1 by omega];rfl
   ·rw [qf rfl,qf (by omega),show i * 3+2 - i * 3=2 by omega];rfl
  ·rw [qd h2,show min (3 * i) l.length=3 * i by omega]
   have:∃ k,j - 3 * i=k+3:=⟨j - 3 * i - 3,by omega⟩
   obtain ⟨k,hk⟩:=this
   rw [hk];rfl
theorem Rj (l:List Int) (a:Int) (n:Nat):(cellsOf l a (n+1)).flatMap fC=(cellsOf l a n).flatMap fC++fC (cellOf l a n):=by
 unfold cellsOf;rw [List.range_succ,List.map_append,List.flatMap_append];simp
def CsAt (w:World) (l:List Int) (a:Int) (b n:Nat) (x:Value) (wr:World):Prop:=∃ i cur,i<=n/\x = .int .i64 (i:Nat)/\Ob wr b 138 cur/\cur.size=3 * n/\cur.toList.take (3 * i)=(cellsOf l a i).flatMap fC/\Fr [] w wr
def qeg (w:World) (cs:List Ce) (e:Ending) (w':World):Prop:=∃ b,e = .returned (.slice (some ⟨b,0,none⟩) cs.length cs.length)/\w.heap.size<=b/\Ob w' b 138 (cs.flatMap fC).toArray/\Fr [] w w'
theorem q7i (t wd v a:Int) (n p q:Nat) (s:St) (w:World) (h1:1<=n) (h2:n<=16) (h3:0<=a) (h4:a<=20000) (hA:Ar w p q s) :
  Calls Tryz.prog 78 #[.agg #[.int .i64 t,.int .i64 n,.int .i64 wd,.int .i64 v],.pointer (some ⟨p,0,none⟩),.int .i64 a] w (qeg w (cellsOf s.l a n)):=by
 have hlen:(cellsOf s.l a n).length=n:=by unfold cellsOf;simp
 have F0:=(Fr.refl [] w).alloc (.cells #[.int .i64 t,.int .i64 n,.int .i64 wd,.int .i64 v] 23)
 obtain ⟨c0,c1,c2,c3⟩:=Pl.xc (Go.heap_alloc_new w (.cells #[.int .i64 t,.int .i64 n,.int .i64 wd,.int .i64 v] 23))
 obtain ⟨i0,h0,hz0,hz1,hz2⟩:=info_parts ceI
 go_enter Tryz.func78,Tryz.ntmps78
 go_wp2_with (at_make;refine wpList_make_full _ rfl _ _ 70 rfl 0 138 i0 (.agg #[.int .i64 0,.int .i64 0,.int .i64 0]) 3 Tryz.underlying70 h0 hz0 hz1 _ _ _ _ n rfl rfl rfl rfl (by rw [hz2];omega) (by unfold maxLen;omega) (Nat.zero_le _) ?_;intro w1 hown hg)
 have G1:=F0.trans (Fr.grown hg)
 obtain ⟨-,hown⟩:=hown
 rcases hown with ⟨e1,-⟩ | ⟨g,cap,cur,e1,-,hh,hc1,hc2,hs,-⟩
 ·simp at e1
 simp only [Value.slice.injEq,Option.some.injEq,Addr.mk.injEq] at e1
 obtain ⟨⟨rfl,-⟩,-,rfl⟩:=e1
 rw [Zp] at hh
 clear c0 c1 c2 c3 hg F0
 have o1:Ob w1 (w.heap.size+1) 138 cur:=hh
 clear hh
 have hlen':=q9 hlen
 have hs':=q9 hs
 clear hlen hs
 go_loopw [15] (CsAt w s.l a (w.heap.size+1) n) (fun x _=>n - (intOf x).toNat)
 case atStart=>exact ⟨0,cur,Nat.zero_le _,rfl,o1,by have:=hs'.out;omega,by simp [cellsOf],G1⟩
 case round =>
  obtain ⟨i,cur,hi,rfl,o,hsz,htk,F⟩:=hrel
  by_cases hlt:i<n
  ·have HT:=q9 (qc hsz htk)
   clear hsz htk hs' o1
   have A:=hA.kept F
   have z:=o.frozen
   go_wp2_with fail
   refine (Pl.wu a i h3 (by omega) (by omega) (by omega) _).mono ?_;rintro e _ ⟨rfl,rfl⟩
   go_wp2_with fail
   refine (je _ p q s _ A).mono ?_;rintro e _ ⟨rfl,rfl⟩
   go_wp2_with fail
   refine (je _ p q s _ A).mono ?_;rintro e _ ⟨rfl,rfl⟩
   go_wp2_with fail
   refine (je _ p q s _ A).mono ?_;rintro e _ ⟨rfl,rfl⟩
   have HC:cellOf s.l a i=⟨qq s.l (a+7+3 * i),qq s.l (a+7+3 * i+1),qq s.l (a+7+3 * i+2)⟩:=rfl
   generalize qq s.l (a+7+3 * i)=x at *
   generalize qq s.l (a+7+3 * i+1)=y at *
   generalize qq s.l (a+7+3 * i+2)=u at *
   have HC':=q9 HC
   clear HC
   have q0:∃ v0,wr.cell? ⟨w.heap.size+1,i * 3,none⟩=some v0:=⟨cur[i * 3]'(by have:=HT.out.1;omega),o.cell (Array.getElem?_eq_getElem _)⟩
   have q1:∃ v0,wr.cell? ⟨w.heap.size+1,i * 3+1,none⟩=some v0:=⟨cur[i * 3+1]'(by have:=HT.out.1;omega),o.cell (Array.getElem?_eq_getElem _)⟩
   have q2:∃ v0,wr.cell? ⟨w.heap.size+1,i * 3+2,none⟩=some v0:=⟨cur[i * 3+2]'(by have:=HT.out.1;omega),o.cell (Array.getElem?_eq_getElem _)⟩
   obtain ⟨v0,q0⟩:=q0
   obtain ⟨v1,q1⟩:=q1
   obtain ⟨v2,q2⟩:=q2
   go_wp2_with fail
   go_roundw
   case rel =>
    refine ⟨i+1,_,by omega,by go_num,((o.set (i:=i * 3) (.int .i64 x)).set (i:=i * 3+1) (.int .i64 y)).set (i:=i * 3+2) (.int .i64 u),by have:=HT.out.1;simpa using this,?_,?_⟩
    ·rw [set3 _ _ _ (by have:=HT.out.1;omega),HT.out.2,Rj,HC'.out];rfl
    ·exact F.own (((Fr.setCell (b:=w.heap.size+1) _ (List.mem_singleton.2 rfl)).setCell' _ (List.mem_singleton.2 rfl)).setCell' _ (List.mem_singleton.2 rfl)) (by simp)
   case measure=>simp [intOf];omega
  ·obtain rfl:i=n:=by omega
   have HT:=q9 (qc hsz htk)
   clear hsz htk hs' o1
   go_wp2
   go_ret
   refine ⟨w.heap.size+1,by rw [hlen'.out];rfl,by omega,?_,F⟩
   have e:=HT.out.2
   rw [List.take_of_length_le (by have:=HT.out.1;simp;omega)] at e
   rw [<- e];exact o
theorem qe8 (x0 x1 x2 x3 x4 x5 x6 x7 x8 y0 y1 y2 y3 y4 y5 y6 y7 y8:Value):((((((((((#[x0,x1,x2,x3,x4,x5,x6,x7,x8]:Array Value).setIfInBounds 0 y0).setIfInBounds 1 y1).setIfInBounds 2 y2).setIfInBounds 3 y3).setIfInBounds 4 y4).setIfInBounds 5 y5).setIfInBounds 6 y6).setIfInBounds 7 y7).setIfInBounds 8 y8) = #[y0,y1,y2,y3,y4,y5,y6,y7,y8]:=by kernel_rfl
def qdw (w:World) (h:Hd) (cs:List Ce) (e:Ending) (w':World):Prop:=∃ b,e = .returned (.tuple #[chV h (.slice (some ⟨b,0,none⟩) cs.length cs.length),.nilIface])/\w.heap.size<=b/\Ob w' b 138 (cs.flatMap fC).toArray/\Fr [] w w'
theorem q6t (t wd v a:Int) (n p q:Nat) (s:St) (w:World) (h1:1<=n) (h2:n<=16) (h3:n<=s.l.length) (h4:s.l.length<=20000) (hA:Ar w p q s) (ht:Z3 s.l.length n a=true) :
  Calls Tryz.prog 45 #[.agg #[.int .i64 t,.int .i64 n,.int .i64 wd,.int .i64 v],.pointer (some ⟨p,0,none⟩),.int .i64 a] w (qdw w (Sd s.l a) (cellsOf s.l a n)):=by
 have hlen:(cellsOf s.l a n).length=n:=by unfold cellsOf;simp
 have ha:0<=a/\a<=(s.l.length:Int) - (7+3 * n):=by unfold Z3 at ht;simpa using ht
 have F0:=((Fr.refl [] w).alloc (.cells #[.int .i64 t,.int .i64 n,.int .i64 wd,.int .i64 v] 23))
 have o0:=Ob.new w 23 #[.int .i64 t,.int .i64 n,.int .i64 wd,.int .i64 v]
 go_enter Tryz.func45,Tryz.ntmps45
 have z0:Value:=.agg #[.int .i64 0,.int .i64 0,.int .i64 0,.int .i64 0,.int .i64 0,.int .i64 0,.int .i64 0,.int .i64 0,.slice none 0 0]
 have o1:=Ob.newAt (Zp w (.cells #[.int .i64 t,.int .i64 n,.int .i64 wd,.int .i64 v] 23)) 72 #[.int .i64 0,.int .i64 0,.int .i64 0,.int .i64 0,.int .i64 0,.int .i64 0,.int .i64 0,.int .i64 0,.slice none 0 0]
 have F1:=F0.alloc (.cells #[.int .i64 0,.int .i64 0,.int .i64 0,.int .i64 0,.int .i64 0,.int .i64 0,.int .i64 0,.int .i64 0,.slice none 0 0] 72)
 have o2:=o0.alloc (.cells #[.int .i64 0,.int .i64 0,.int .i64 0,.int .i64 0,.int .i64 0,.int .i64 0,.int .i64 0,.int .i64 0,.slice none 0 0] 72)
 clear F0 o0 z0
 go_wp2_with fail
 generalize World.alloc (World.alloc w _) _=w1 at *
 refine (Re t n wd v a p q s _ (by omega) (by omega) (by omega) h4 (hA.kept F1)).mono ?_;rintro e w2 ⟨rfl,F2⟩
 rw [ht]
 clear ht
 have A2:=hA.kept (F1.trans F2) (by simp) (by simp)
 replace o1:=o1.up F2
 replace o2:=o2.up F2
 replace F1:=F1.trans F2
 have hpq:=hA.lt
 clear F2 hA
 go_wp2_with fail
 have hne:w.heap.size≠w.heap.size+1:=by omega
 refine qx (by kernel_rfl) [w.heap.size+1] (fun w3 F3=>?_)
 refine epq [true,true,true,true,true,true,true,true,true,true,true,true,true,true,true,true,true,true,true,true,true,true,true,true,true,true,true,true,true,true,true,true,false,false,false,false] 4 (F3.mono) ?_
 apply qg
 refine ⟨fun wf Ff=>?_,?_⟩
 ·have Af:=A2.kept Ff (by simp;omega) (by simp;omega)
  have of:=o2.kept Ff (by simp)
  have k0:=qb (of.cell (i:=0) rfl)
  have k1:=qb (of.cell (i:=1) rfl)
  have k2:=qb (of.cell (i:=2) rfl)
  have k3:=qb (of.cell (i:=3) rfl)
  clear of
  simp only [sel]
  repeat (go_big_quiet_step ((go_at_call 12;exact Calls.in_same (je _ p q s _ (Af.kept (In.fr _) (by simp) (by simp))))))
  exact wpQuiet_nil rfl
 refine eoq 32 (fun w4 F4=>?_)
 have E:=F3.trans F4
 clear F3 F4
 have A4:=A2.kept E
 replace o1:=o1.up E
 have G:=F1.trans E
 have hG:=G.size
 clear o2 A2
 go_wp2_with fail
 have hlt4:=o1.lt
 refine (q7i t wd v a n p q s _ h1 h2 ha.1 (by omega) A4).mono ?_;rintro e w5 ⟨b,rfl,hb,ob,F5⟩
 rw [hlen]
 go_wp2_with fail
 replace o1:=o1.up F5
 have G5:=G.trans F5
 have E5:=E.trans F5
 clear A4 F5 G E
 refine ql ⟨E5.mono,?_⟩
 refine eoq 33 (fun w6 F6=>?_)
 replace o1:=o1.up F6
 replace ob:=ob.up F6
 replace G5:=G5.trans F6
 replace E5:=E5.trans F6
 clear F6
 go_wp2_with fail
 refine ql ⟨E5.mono,?_⟩
 refine eoq 34 (fun w7 F7=>?_)
 replace o1:=o1.up F7
 replace ob:=ob.up F7
 replace G5:=G5.trans F7
 replace E5:=E5.trans F7
 clear F7
 have z:=o1.frozen
 obtain ⟨q0,q1,q2,q3,q4,q5,q6,q7,q8⟩:=yz (h:=⟨0,0,0,0,0,0,0,0⟩) (lv:=.slice none 0 0) o1
 have hsz1:w.heap.size+1<w7.heap.size:=o1.lt
 have hbne:b≠w.heap.size+1:=by omega
 have o8:=(Ob.set (Ob.set (Ob.set (Ob.set (Ob.set (Ob.set (Ob.set (Ob.set (Ob.set o1 (i:=0) (.int .i64 a)) (i:=1) (.int .i64 (qq s.l a))) (i:=2) (.int .i64 (qq s.l (a+1)))) (i:=3) (.int .i64 (qq s.l (a+2)))) (i:=4) (.int .i64 (qq s.l (a+3)))) (i:=5) (.int .i64 (qq s.l (a+4)))) (i:=6) (.int .i64 (qq s.l (a+5)))) (i:=7) (.int .i64 (qq s.l (a+6)))) (i:=8) (.slice (some ⟨b,0,none⟩) n n))
 have F8:Fr [w.heap.size+1] w7 (((((((((w7.setCell ⟨w.heap.size+1,0,none⟩ (.int .i64 a)).setCell ⟨w.heap.size+1,1,none⟩ (.int .i64 (qq s.l a))).setCell ⟨w.heap.size+1,2,none⟩ (.int .i64 (qq s.l (a+1)))).setCell ⟨w.heap.size+1,3,none⟩ (.int .i64 (qq s.l (a+2)))).setCell ⟨w.heap.size+1,4,none⟩ (.int .i64 (qq s.l (a+3)))).setCell ⟨w.heap.size+1,5,none⟩ (.int .i64 (qq s.l (a+4)))).setCell ⟨w.heap.size+1,6,none⟩ (.int .i64 (qq s.l (a+5)))).setCell ⟨w.heap.size+1,7,none⟩ (.int .i64 (qq s.l (a+6)))).setCell ⟨w.heap.size+1,8,none⟩ (.slice (some ⟨b,0,none⟩) n n)):=(Fr.setCell' (Fr.setCell' (Fr.setCell' (Fr.setCell' (Fr.setCell' (Fr.setCell' (Fr.setCell' (Fr.setCell' (Fr.setCell' (Fr.refl [w.heap.size+1] w7) (b:=w.heap.size+1) (i:=0) (.int .i64 a) (by simp)) (b:=w.heap.size+1) (i:=1) (.int .i64 (qq s.l a)) (by simp)) (b:=w.heap.size+1) (i:=2) (.int .i64 (qq s.l (a+1))) (by simp)) (b:=w.heap.size+1) (i:=3) (.int .i64 (qq s.l (a+2))) (by simp)) (b:=w.heap.size+1) (i:=4) (.int .i64 (qq s.l (a+3))) (by simp)) (b:=w.heap.size+1) (i:=5) (.int .i64 (qq s.l (a+4))) (by simp)) (b:=w.heap.size+1) (i:=6) (.int .i64 (qq s.l (a+5))) (by simp)) (b:=w.heap.size+1) (i:=7) (.int .i64 (qq s.l (a+6))) (by simp)) (b:=w.heap.size+1) (i:=8) (.slice (some ⟨b,0,none⟩) n n) (by simp))
 go_wp2_with fail
 generalize hW8:(((((((((w7.setCell ⟨w.heap.size+1,0,none⟩ (.int .i64 a)).setCell ⟨w.heap.size+1,1,none⟩ (.int .i64 (qq s.l a))).setCell ⟨w.heap.size+1,2,none⟩ (.int .i64 (qq s.l (a+1)))).setCell ⟨w.heap.size+1,3,none⟩ (.int .i64 (qq s.l (a+2)))).setCell ⟨w.heap.size+1,4,none⟩ (.int .i64 (qq s.l (a+3)))).setCell ⟨w.heap.size+1,5,none⟩ (.int .i64 (qq s.l (a+4)))).setCell ⟨w.heap.size+1,6,none⟩ (.int .i64 (qq s.l (a+5)))).setCell ⟨w.heap.size+1,7,none⟩ (.int .i64 (qq s.l (a+6)))).setCell ⟨w.heap.size+1,8,none⟩ (.slice (some ⟨b,0,none⟩) n n))=w8 at *
 rw [qe8] at o8
 replace o8:Ob w8 (w.heap.size+1) 72 (chC (Sd s.l a) (.slice (some ⟨b,0,none⟩) n n)):=o8
 have ob8:=ob.kept F8 (by simpa using hbne)
 have E8:=(E5.mono (T:=[w.heap.size+1]) (by simp)).trans F8
 have G8:=G5.own F8 (by simp)
 clear hW8 q0 q1 q2 q3 q4 q5 q6 q7 q8 z F8 ob E5 G5 o1
 refine ql ⟨E8,?_⟩
 refine eoq 35 (fun w9 F9=>?_)
 replace o8:=o8.up F9
 replace ob8:=ob8.up F9
 replace E8:=E8.then F9
 replace G8:=G8.trans F9
 clear F9
 go_wp2_with fail
 refine ql ⟨E8,?_⟩
 refine zl (by kernel_rfl) (fun w10 F10=>?_)
 replace o8:=o8.up F10
 replace ob8:=ob8.up F10
 replace G8:=G8.trans F10
 clear F10 E8
 go_wp2_with fail
 obtain ⟨q0,q1,q2,q3,q4,q5,q6,q7,q8⟩:=yz o8
 refine bodyPost_ret (v:=.tuple #[chV (Sd s.l a) (.slice (some ⟨b,0,none⟩) n n),.nilIface]) ?_ rfl ?_
 ·simp [results,Tryz.results45,go_sem,q0,q1,q2,q3,q4,q5,q6,q7,q8,chV]
 ·exact ⟨b,by rw [hlen],by omega,ob8,G8⟩
end Go.Proofs.YtppajakfaomkaaaGreat.Vw
