/- Texts that this proof leans on, one behind the other: RWords, Walk, Met. -/
import Derived.Test.YtilipdnchflkhaaGreatDoorVag
import Derived.Test.YtilipdnchflkhaaGreatDoorVak
import Derived.Test.YtilipdnchflkhaaGreatDoorVam
import Derived.Test.YtilipdnchflkhaaGreatDoorVas
set_option linter.unusedVariables false
set_option linter.unusedSimpArgs false
set_option maxRecDepth 100000
set_option maxHeartbeats 12800000
namespace Go.Proofs.YtilipdnchflkhaaGreatDoor.Mx
open Go.RowKit Go.Proofs.YtilipdnchflkhaaGreatDoor.Ar Go.Proofs.YtilipdnchflkhaaGreatDoor.Vw
def fQ (x:Int×Int):List Value:=[.int .i64 x.1,.int .i64 x.2]
theorem fQ_lays:Lays fQ 2:=⟨fun _=>rfl,fun x u hu=>by simp [fQ] at hu;rcases hu with rfl | rfl <;> rfl,by decide⟩
theorem woI:(Tryz.prog.info? 293).map (fun i=>(i.zero,i.size,i.bytes))=some (some (.agg #[.int .i64 0,.int .i64 0]),2,16):=by kernel_rfl
theorem nkWords_len (n:Nk) {cap:Nat} (h:n.its.length≤cap):(nkWords n).length≤3+3 * cap:=by unfold nkWords;simp only [List.length_cons,itWords_len];omega
theorem wordsT_len {cap:Nat}:∀ ns:List Nk,(∀ n,n∈ns→n.its.length≤cap)→(wordsT ns).length≤(3+3 * cap) * ns.length
 | [],_=>by simp [wordsT]
 | n :: r,h=>by
  have h1:=wordsT_len r (fun m hm=>h m (by simp [hm]))
  have h2:=nkWords_len n (h n (by simp))
  unfold wordsT at h1 ⊢
  rw [List.flatMap_cons,List.length_append,List.length_cons,Nat.mul_add];omega
theorem ch_cells {w:World} {a:Option Addr} {n cap i:Nat} {xs:List Chs} {x:Chs} (h:Sq fH w (.slice a n cap) xs) (hi:xs[i]? = some x) :
  ∃ g off,a=some ⟨g,off,none⟩∧w.cell? ⟨g,off+i * 9,none⟩=some (.int .i64 x.h.at_)∧w.cell? ⟨g,off+i * 9+1,none⟩=some (.int .i64 x.h.mn)∧w.cell? ⟨g,off+i * 9+2,none⟩=some (.int .i64 x.h.ct)∧w.cell? ⟨g,off+i * 9+3,none⟩=some (.int .i64 x.h.nx)∧w.cell? ⟨g,off+i * 9+4,none⟩=some (.int .i64 x.h.ld)∧w.cell? ⟨g,off+i * 9+5,none⟩=some (.int .i64 x.h.mt)∧w.cell? ⟨g,off+i * 9+6,none⟩=some (.int .i64 x.h.rp)∧w.cell? ⟨g,off+i * 9+7,none⟩=some (.int .i64 x.h.st)∧w.cell? ⟨g,off+i * 9+8,none⟩=some x.s.v:=by
 obtain ⟨-,g,off,rfl,hc⟩:=Sq.cell fH_lays h hi
 exact ⟨g,off,rfl,hc 0 _ rfl,hc 1 _ rfl,hc 2 _ rfl,hc 3 _ rfl,hc 4 _ rfl,hc 5 _ rfl,hc 6 _ rfl,hc 7 _ rfl,hc 8 _ rfl⟩
theorem take_more {α:Type} {l:List α} {k:Nat} {y:α} (h:l[k]? = some y):l.take (k+1)=l.take k++[y]:=by rw [List.take_add_one,h];rfl
def RwO (w:World) (ns:List Nk) (u x:Value) (wr:World):Prop:=∃ i,i≤ns.length∧x = .int .i64 (i:Nat)∧wr.ownsRow w.heap.size 293 2 u (wordsT (ns.take i)).length ((wordsT (ns.take i)).flatMap fQ)∧Fr [] w wr
def RwI (w:World) (cap:Nat) (q:Nat) (cs:Array Value) (pre:List (Int×Int)) (at_:Int) (its:List It) (u x:Value) (wr:World):Prop:=∃ k,k≤cap∧x = .int .i64 (k:Nat)∧wr.ownsRow w.heap.size 293 2 u (pre++itWords at_ 0 (its.take k)).length ((pre++itWords at_ 0 (its.take k)).flatMap fQ)∧Ob wr q 70 cs∧Fr [] w wr
theorem words_any (cap:Nat) (ns:List Nk) (xs:List Chs) (v:Value) (w:World) (hcap:cap≤16) (hl:ns.length≤1000) (hits:∀ n,n∈ns→n.its.length≤cap) (h:Sq fH w v xs) (hx:ChsIs w xs ns cap) :
  Calls Tryz.prog 218 #[v] w fun e w'=>(∃ u,e = .returned u∧w'.ownsRow w.heap.size 293 2 u (wordsT ns).length ((wordsT ns).flatMap fQ))∧Fr [] w w':=by
 obtain ⟨a,cp,rfl,hcp,hmax,-⟩:=id h
 rw [hx.1] at h hcp ⊢
 have HS:=Lib.hid (And.intro h (And.intro hx hits))
 clear h hx hits
 go_enter Tryz.func218,Tryz.ntmps218
 go_wp2_with fail
 go_loopw [3,4] (RwO w ns) (fun _ x _=>ns.length - (intOf x).toNat)
 case atStart=>exact ⟨0,by omega,rfl,⟨rfl,.inl ⟨rfl,rfl⟩⟩,Fr.refl _ _⟩
 case round =>
  obtain ⟨i,hi,rfl,hr,F⟩:=hrel
  by_cases hlt:i<ns.length
  ·have HI2:=Lib.hid (show i+1≤ns.length∧ns.length - (i+1)<ns.length - i by omega)
   have hltz:(i:Int)<(ns.length:Int):=by omega
   have hi0:(0:Int)≤(i:Int):=by omega
   obtain ⟨n,hn⟩:∃ n,ns[i]? = some n:=⟨ns[i],List.getElem?_eq_getElem _⟩
   obtain ⟨x,hxi⟩:∃ x,xs[i]? = some x:=⟨xs[i]'(by rw [HS.out.2.1.1];exact hlt),List.getElem?_eq_getElem _⟩
   obtain ⟨e1,hsq⟩:=HS.out.2.1.2 i x n hxi hn
   have HIT:=Lib.hid (HS.out.2.2 n (List.mem_of_getElem? hn))
   have HSQ0:=hsq
   obtain ⟨g,off,rfl,c0,c1,c2,c3,c4,c5,c6,c7,c8⟩:=ch_cells (HS.out.1.up F) hxi
   obtain ⟨⟨at_,mn,ct,nx,ld,mt,rp,st⟩,⟨sa,sn,sc⟩⟩:=x
   obtain ⟨nat,nmn,nct,nnx,its⟩:=n
   unfold hdOf at e1
   simp only [Hd.mk.injEq] at e1
   simp only at hsq c0 c1 c2 c3 c4 c5 c6 c7 c8 HIT
   obtain ⟨rfl,rfl,rfl,rfl,rfl,rfl,rfl,rfl⟩:=e1
   unfold Sv.v at c8 hsq
   simp only at c8 hsq
   obtain ⟨sa',sc',e2,hsc,hsm,-⟩:=id hsq
   rw [ces_len] at e2 hsc
   simp only [Value.slice.injEq] at e2
   obtain ⟨rfl,rfl,rfl⟩:=e2
   have HWT:=Lib.hid (wordsT_step hn)
   have HSQ:=Lib.hid HSQ0
   clear HSQ0
   have F1:=(Fr.refl [] wr).alloc (.cells #[.int .i64 at_,.int .i64 mn,.int .i64 ct,.int .i64 nx,.int .i64 0,.int .i64 0,.int .i64 0,.int .i64 0,.slice sa sn sc] 70)
   have o1:=Ob.new wr 70 #[.int .i64 at_,.int .i64 mn,.int .i64 ct,.int .i64 nx,.int .i64 0,.int .i64 0,.int .i64 0,.int .i64 0,.slice sa sn sc]
   have r1:=row_keeps hr F1
   have hs1:=(hsq.up F).up F1
   have FW:=F.trans F1
   have HLN:=Lib.hid (show (wordsT (ns.take i)).length≤60000 by
    have h1:=wordsT_len (ns.take i) (fun m hm=>HS.out.2.2 m (List.mem_of_mem_take hm))
    have h2:(ns.take i).length≤1000:=by rw [List.length_take];omega
    have h3:(3+3 * sn) * (ns.take i).length≤51 * 1000:=Nat.mul_le_mul (by omega) h2
    omega)
   generalize wordsT (ns.take i)=pre at *
   clear F hn hxi hsq
   have hz9:(wr.alloc (.cells #[.int .i64 at_,.int .i64 mn,.int .i64 ct,.int .i64 nx,.int .i64 0,.int .i64 0,.int .i64 0,.int .i64 0,.slice sa sn sc] 70)).heap.size=wr.heap.size+1:=sizeA _ _
   have F2:=(Fr.refl [] (wr.alloc (.cells #[.int .i64 at_,.int .i64 mn,.int .i64 ct,.int .i64 nx,.int .i64 0,.int .i64 0,.int .i64 0,.int .i64 0,.slice sa sn sc] 70))).alloc (.cells #[.int .i64 (wrap64 at_),.int .i64 mn,.int .i64 (wrap64 (at_+1)),.int .i64 ct,.int .i64 (wrap64 (at_+2)),.int .i64 nx] 293)
   have B2:=Go.heap_alloc_new (wr.alloc (.cells #[.int .i64 at_,.int .i64 mn,.int .i64 ct,.int .i64 nx,.int .i64 0,.int .i64 0,.int .i64 0,.int .i64 0,.slice sa sn sc] 70)) (.cells #[.int .i64 (wrap64 at_),.int .i64 mn,.int .i64 (wrap64 (at_+1)),.int .i64 ct,.int .i64 (wrap64 (at_+2)),.int .i64 nx] 293)
   rw [hz9] at B2
   have HR2:=Lib.hid (And.intro (row_keeps r1 F2) (And.intro (o1.up F2) (And.intro (hs1.up F2) (FW.trans F2))))
   have HB2:=Lib.hid B2
   obtain ⟨ap,cp2,rfl,hcp2,hmp2,-⟩:=id (Sq.own (f:=fQ) hr)
   clear r1 o1 hs1 FW F1 F2 B2 hz9 hr
   go_wp2_with (at_builtin;go_loud (refine wpList_appSq fQ_lays rfl _ _ 273 rfl Tryz.underlying273 woI rfl (B:=w.heap.size) _ pre rfl HR2.out.1 _ [(wrap64 at_,mn),(wrap64 (at_+1),ct),(wrap64 (at_+2),nx)] rfl (Sq.block HB2.out rfl rfl (Nat.le_refl _) (by simp [maxLen])) (by have:=HLN.out;simp <;> omega) (by decide) HR2.out.2.2.2.size ?_);intro a7 k7 w7 r7 F7;generalize hT:pre++[(wrap64 at_,mn),(wrap64 (at_+1),ct),(wrap64 (at_+2),nx)]=T at r7 ⊢)
   have G7:Fr [] w w7:=HR2.out.2.2.2.own F7 (row_base HR2.out.1)
   have o7:=Ob.kept HR2.out.2.1 F7 (row_ne HR2.out.1 HR2.out.2.1 (by decide))
   have HLT:=Lib.hid (show T.length≤60003 by rw [← hT];simp;exact HLN.out)
   have HT:=Lib.hid hT
   generalize wr.heap.size=q at *
   have H7:=Lib.hid (And.intro o7 (And.intro G7 (HSQ.out.up G7)))
   clear HR2 HB2 F7 G7 o7 hT c0 c1 c2 c3 c4 c5 c6 c7 c8
   generalize wr=wo at *
   go_loopw [3,6] (RwI w sn q #[.int .i64 at_,.int .i64 mn,.int .i64 ct,.int .i64 nx,.int .i64 0,.int .i64 0,.int .i64 0,.int .i64 0,.slice sa sn sc] T at_ its) (fun _ x _=>sn - (intOf x).toNat)
   case atStart=>exact ⟨0,by omega,rfl,by rw [List.take_zero];unfold itWords;rw [List.append_nil];exact r7,H7.out.1,H7.out.2.1⟩
   case round =>
    clear r7
    obtain ⟨k,hk,rfl,hr,ok,Fk⟩:=hrel
    have b8:wr.cell? ⟨q,8,none⟩=some (.slice sa sn sc):=ok.cell rfl
    have b0:wr.cell? ⟨q,0,none⟩=some (.int .i64 at_):=ok.cell rfl
    have hqn:q<wr.heap.size:=Ob.lt ok
    have hqe:¬ q=wr.heap.size:=by omega
    by_cases hkl:k<sn
    ·have HK2:=Lib.hid (show k+1≤sn∧sn - (k+1)<sn - k by omega)
     have hklz:(k:Int)<(sn:Int):=by omega
     have hk0:(0:Int)≤(k:Int):=by omega
     have hx9:=ces_at (cap:=sn) (g:=its) hkl
     have hs9:=HSQ.out.up Fk
     by_cases hil:k<its.length
     ·obtain ⟨y,hy⟩:∃ y,its[k]? = some y:=⟨its[k],List.getElem?_eq_getElem _⟩
      rw [hy] at hx9
      obtain ⟨g2,off2,rfl,d0,d1,d2⟩:=ce_cells hs9 hx9
      unfold ceO at d0 d1 d2
      simp only at d0 d1 d2
      have hne:∀ W,(binOp .neq 131 (.agg #[.int .i64 (stateW y.v),.int .i64 y.k,.int .i64 y.d]) (.agg #[.int .i64 0,.int .i64 0,.int .i64 0])).run Tryz.prog W = .ok (.bool true) W:=fun W=>by
       have h:=ce_neq ⟨stateW y.v,y.k,y.d⟩ ⟨0,0,0⟩ W
       rw [show (decide ((⟨stateW y.v,y.k,y.d⟩:Ce)≠⟨0,0,0⟩))=true from decide_eq_true (by intro h;have h1:=congrArg Ce.s h;simp only at h1;have:=stateW_ge y.v;omega)] at h
       exact h
      have HY:=Lib.hid (show itWords at_ 0 (its.take (k+1))=itWords at_ 0 (its.take k)++[(stAt at_ (k:Int),stateW y.v),(wrap64 (stAt at_ (k:Int)+1),y.k),(wrap64 (stAt at_ (k:Int)+2),y.d)] by
       rw [take_more hy,itWords_snoc,Nat.zero_add,show (its.take k).length=k by rw [List.length_take];omega])
      have HLI:=Lib.hid (show (T++itWords at_ 0 (its.take k)).length≤60100 by
       have h1:=itWords_len at_ (its.take k) 0
       have h2:(its.take k).length≤16:=by rw [List.length_take];omega
       have:=HLT.out
       rw [List.length_append];omega)
      generalize hT2:T++itWords at_ 0 (its.take k)=T2 at *
      have HT2:=Lib.hid hT2
      generalize stateW y.v=sw at *
      have F1:=(Fr.refl [] wr).alloc (.cells #[.int .i64 sw,.int .i64 y.k,.int .i64 y.d] 131)
      have F2:=(Fr.refl [] (wr.alloc (.cells #[.int .i64 sw,.int .i64 y.k,.int .i64 y.d] 131))).alloc (.cells #[.int .i64 (stAt at_ (k:Int)),.int .i64 sw,.int .i64 (wrap64 (stAt at_ (k:Int)+1)),.int .i64 y.k,.int .i64 (wrap64 (stAt at_ (k:Int)+2)),.int .i64 y.d] 293)
      have B2:=Go.heap_alloc_new (wr.alloc (.cells #[.int .i64 sw,.int .i64 y.k,.int .i64 y.d] 131)) (.cells #[.int .i64 (stAt at_ (k:Int)),.int .i64 sw,.int .i64 (wrap64 (stAt at_ (k:Int)+1)),.int .i64 y.k,.int .i64 (wrap64 (stAt at_ (k:Int)+2)),.int .i64 y.d] 293)
      rw [sizeA] at B2
      have HR9:=Lib.hid (And.intro (row_keeps (row_keeps hr F1) F2) (And.intro (Fk.trans (F1.trans F2)) (And.intro B2 (ok.up (F1.trans F2)))))
      obtain ⟨ap2,cp3,rfl,hcp3,hmp3,-⟩:=id (Sq.own (f:=fQ) hr)
      clear hr F1 F2 B2 hs9 hx9 hT2 Fk hy ok
      go_wp2_with (first | (go_at_call 29;refine (stAt_any _ _ _).mono ?_;rintro e _ ⟨rfl,rfl⟩) | (at_builtin;go_loud (refine wpList_appSq fQ_lays rfl _ _ 273 rfl Tryz.underlying273 woI rfl (B:=w.heap.size) _ T2 rfl HR9.out.1 _ [(stAt at_ (k:Int),sw),(wrap64 (stAt at_ (k:Int)+1),y.k),(wrap64 (stAt at_ (k:Int)+2),y.d)] rfl (Sq.block HR9.out.2.2.1 rfl rfl (Nat.le_refl _) (by simp [maxLen])) (by have:=HLI.out;simp <;> omega) (by decide) HR9.out.2.1.size ?_);intro a8 k8 w8 r8 F8;generalize hT3:T2++[(stAt at_ (k:Int),sw),(wrap64 (stAt at_ (k:Int)+1),y.k),(wrap64 (stAt at_ (k:Int)+2),y.d)]=T3 at r8 ⊢))
      have HR8:=Lib.hid (And.intro r8 (And.intro (And.intro (Ob.kept HR9.out.2.2.2 F8 (row_ne HR9.out.1 HR9.out.2.2.2 (by decide))) (HR9.out.2.1.own F8 (row_base HR9.out.1))) (show T++itWords at_ 0 (its.take (k+1))=T3 by rw [← hT3,← HT2.out,HY.out,List.append_assoc])))
      go_roundw
      case rel=>exact ⟨k+1,HK2.out.1,by simp,by rw [HR8.out.2.2];exact HR8.out.1,HR8.out.2.1.1,HR8.out.2.1.2⟩
      case measure=>exact meas rfl HK2.out.2
     ·rw [List.getElem?_eq_none (by omega:its.length≤k)] at hx9
      obtain ⟨g2,off2,rfl,d0,d1,d2⟩:=ce_cells hs9 hx9
      unfold ceO at d0 d1 d2
      simp only at d0 d1 d2
      have hne:∀ W,(binOp .neq 131 (.agg #[.int .i64 0,.int .i64 0,.int .i64 0]) (.agg #[.int .i64 0,.int .i64 0,.int .i64 0])).run Tryz.prog W = .ok (.bool false) W:=fun W=>by have h:=ce_neq ⟨0,0,0⟩ ⟨0,0,0⟩ W;simpa using h
      have F1:=(Fr.refl [] wr).alloc (.cells #[.int .i64 0,.int .i64 0,.int .i64 0] 131)
      have HR8:=Lib.hid (And.intro (row_keeps hr F1) (And.intro (And.intro (ok.up F1) (Fk.trans F1)) (show its.take (k+1)=its.take k by rw [List.take_of_length_le (by omega),List.take_of_length_le (by omega)])))
      clear hr F1 hs9 hx9 Fk ok
      go_wp2_with fail
      go_roundw
      case rel=>exact ⟨k+1,HK2.out.1,by simp,by rw [HR8.out.2.2];exact HR8.out.1,HR8.out.2.1.1,HR8.out.2.1.2⟩
      case measure=>exact meas rfl HK2.out.2
    ·obtain rfl:k=sn:=by omega
     have HR8:=Lib.hid (And.intro hr (And.intro Fk (show T++itWords at_ 0 (its.take k)=wordsT (ns.take (i+1)) by rw [HWT.out,← HT.out,List.append_assoc,List.take_of_length_le HIT.out];rfl)))
     clear hr Fk ok
     go_wp2_with fail
     go_roundw
     case rel=>exact ⟨i+1,HI2.out.1,by simp,by rw [← HR8.out.2.2];exact HR8.out.1,HR8.out.2.1⟩
     case measure=>exact meas rfl HI2.out.2
  ·obtain rfl:i=ns.length:=by omega
   rw [List.take_length] at hr
   have HR:=Lib.hid (And.intro hr F)
   clear hr F
   go_wp2_with fail
   go_ret
   exact ⟨⟨_,rfl,HR.out.1⟩,HR.out.2⟩
end Go.Proofs.YtilipdnchflkhaaGreatDoor.Mx
namespace Go.Proofs.YtilipdnchflkhaaGreatDoor.Mx
open Go.RowKit Go.Proofs.YtilipdnchflkhaaGreatDoor.Ar Go.Proofs.YtilipdnchflkhaaGreatDoor.Ref
structure Wk where
 c:Cf
 key:Int
 line:Int
 x:Int
 cur:Int
 n:Int
 at_:Int
def Wk.cells (x:Wk):Array Value:=#[.int .i64 x.c.t,.int .i64 x.c.c,.int .i64 x.c.wd,.int .i64 x.c.v,.int .i64 x.key,.int .i64 x.line,.int .i64 x.x,.int .i64 x.cur,.int .i64 x.n,.int .i64 x.at_]
def Wk.new (c:Cf) (key:Int):Wk:=⟨c,key,1,0,0,0,0⟩
def Wk.head (x:Wk):Wk:={ x with cur:=headP x.c,line:=5 }
def Wk.ends (x:Wk):Wk:={ x with at_:=x.cur,line:=0 }
def Wk.looks (x:Wk):Int :=
 if x.line=1 then hintP x.c x.key else if x.line=2 then wrap64 (x.x+6) else if x.line=3 then wrap64 x.x else if x.line=5 then wrap64 (x.cur+2) else wrap64 x.n
def Wk.next (x:Wk) (v:Int):Wk :=
 if x.line=1 then (if v=0 then { x with x:=v,line:=2 }.head else { x with x:=v,line:=2 })
 else if x.line=2 then (if v=0 then { x with line:=3 } else { x with line:=3 }.head)
 else if x.line=3 then (if v≤x.key then { x with cur:=x.x,line:=5 } else x.head)
 else if x.line=5 then (if atW v=0 then { x with n:=0,line:=6 }.ends else { x with n:=atW v,line:=6 })
 else (if v≤x.key then { x with cur:=x.n,line:=5 } else x.ends)
def Wk.live (x:Wk):Bool:=decide (x.line=1) || decide (x.line=2) || decide (x.line=3) || decide (x.line=5) || decide (x.line=6)
def Wk.step (x:Wk) (s:St):Wk×St:=if x.live=true then (x.next (peek s.l x.looks),s.load x.looks) else (x,s)
def WkAt (w:World) (b:Nat) (x:Wk):Prop:=Ob w b 237 x.cells
theorem wk_cells {w:World} {b:Nat} {x:Wk} (h:WkAt w b x):w.cell? ⟨b,0,none⟩=some (.int .i64 x.c.t)∧w.cell? ⟨b,1,none⟩=some (.int .i64 x.c.c)∧w.cell? ⟨b,2,none⟩=some (.int .i64 x.c.wd)∧w.cell? ⟨b,3,none⟩=some (.int .i64 x.c.v)∧w.cell? ⟨b,4,none⟩=some (.int .i64 x.key)∧w.cell? ⟨b,5,none⟩=some (.int .i64 x.line)∧w.cell? ⟨b,6,none⟩=some (.int .i64 x.x)∧w.cell? ⟨b,7,none⟩=some (.int .i64 x.cur)∧w.cell? ⟨b,8,none⟩=some (.int .i64 x.n)∧w.cell? ⟨b,9,none⟩=some (.int .i64 x.at_) :=
 ⟨h.cell rfl,h.cell rfl,h.cell rfl,h.cell rfl,h.cell rfl,h.cell rfl,h.cell rfl,h.cell rfl,h.cell rfl,h.cell rfl⟩
theorem newWalk_any (c:Cf) (key:Int) (w:World):Calls Tryz.prog 163 #[c.val,.int .i64 key] w fun e w'=>∃ b,e = .returned (.pointer (some ⟨b,0,none⟩))∧w.heap.size≤b∧WkAt w' b (Wk.new c key)∧Fr [] w w':=by
 unfold Cf.val
 have F0:=(Fr.refl [] w).alloc (.cells #[.int .i64 c.t,.int .i64 c.c,.int .i64 c.wd,.int .i64 c.v] 23)
 obtain ⟨c0,c1,c2,c3⟩:=Pl.cells4 (Go.heap_alloc_new w (.cells #[.int .i64 c.t,.int .i64 c.c,.int .i64 c.wd,.int .i64 c.v] 23))
 go_enter Tryz.func163,Tryz.ntmps163
 go_wp2
 go_ret
 exact ⟨_,rfl,by omega,Ob.newAt (sizeA _ _) _ _,F0.alloc _⟩
theorem walk_head (x:Wk) (hc:x.c.Ok) (b:Nat) (w:World) (h:WkAt w b x):Calls Tryz.prog 198 #[.pointer (some ⟨b,0,none⟩)] w fun e w'=>e = .returned (.tuple #[])∧WkAt w' b x.head∧Fr [b] w w':=by
 obtain ⟨c0,c1,c2,c3,-,-,-,-,-,-⟩:=wk_cells h
 have z:=h.frozen
 go_enter Tryz.func198,Tryz.ntmps198
 go_wp2_with fail
 refine (Ref.head_any x.c.t x.c.c x.c.wd x.c.v hc.t1 hc.t8 _).mono ?_;rintro e w1 ⟨rfl,F1⟩
 have h1:WkAt w1 b x:=h.up F1
 have z1:=h1.frozen
 clear c0 c1 c2 c3 z
 obtain ⟨-,-,-,-,-,c5,-,c7,-,-⟩:=wk_cells h1
 go_wp2
 go_end0
 exact ⟨rfl,by
  have e:3+x.c.t+4=headP x.c:=by unfold headP;omega
  rw [e];exact (h1.set _).set _,(F1.mono).trans ((Fr.setCell _ (by simp)).setCell' _ (by simp))⟩
theorem walk_ends (x:Wk) (b:Nat) (w:World) (h:WkAt w b x):Calls Tryz.prog 199 #[.pointer (some ⟨b,0,none⟩)] w fun e w'=>e = .returned (.tuple #[])∧WkAt w' b x.ends∧Fr [b] w w':=by
 obtain ⟨-,-,-,-,-,c5,-,c7,-,c9⟩:=wk_cells h
 have z:=h.frozen
 go_enter Tryz.func199,Tryz.ntmps199
 go_wp2
 go_end0
 exact ⟨rfl,(h.set _).set _,(Fr.setCell (b:=b) _ (by simp)).setCell' (b:=b) _ (by simp)⟩
theorem walk_step1 (x:Wk) (hl:x.line=1) (hc:x.c.Ok) (hk:0≤x.key∧x.key≤63) (b p q:Nat) (s:St) (w:World) (h:WkAt w b x) (hA:Rar w p q s) (hp:b≠p) (hq:b≠q) :
  Calls Tryz.prog 168 #[.pointer (some ⟨b,0,none⟩),.pointer (some ⟨p,0,none⟩)] w fun e w'=>e = .returned (.bool (decide ((x.next (peek s.l (hintP x.c x.key))).line=0)))∧WkAt w' b (x.next (peek s.l (hintP x.c x.key)))∧Rar w' p q (s.load (hintP x.c x.key))∧Fr [b,p,q] w w':=by
 generalize hy:x.next (peek s.l (hintP x.c x.key))=y
 have HY:=Lib.hid hy
 clear hy
 obtain ⟨c0,c1,c2,c3,c4,c5,c6,c7,c8,c9⟩:=wk_cells h
 go_enter Tryz.func168,Tryz.ntmps168
 go_wp2_with fail
 clear c0 c1 c2 c3 c4 c5 c6 c7 c8 c9
 have hkw:(Lit.int .i64 x.key).wf=true:=WalkArith.wf_i64 (by omega)
 refine wp_region_free (by kernel_rfl) ?_
 refine take_move 1 rfl (by kernel_rfl) (by kernel_rfl) (by kernel_rfl) rfl (fun _ _ d _ _ h=>by cases d <;> exact h) ?_
 go_frame
 refine any_envL [p,q] w #[true,true,true,true,true,true,true,true,true,true,true,true,true,false,false,false,false,false,false] 12 6 rfl ?_
 refine lp [true,false,true,true,true,true,true,true,true,true,true,true,false,false,false,false,false,false,false] 1 ((Fr.refl _ w).drew) ?_
 apply Exists.intro
 refine ⟨fun wf Ff=>?_,?_⟩
 ·have hf:WkAt wf b x:=Ob.kept h Ff (by simp;exact ⟨hp,hq⟩)
  obtain ⟨c0,c1,c2,c3,c4,-,-,-,-,-⟩:=wk_cells hf
  have k0:=In.cell c0
  have k1:=In.cell c1
  have k2:=In.cell c2
  have k3:=In.cell c3
  have k4:=In.cell c4
  clear c0 c1 c2 c3 c4
  simp only [sel]
  repeat (go_big_quiet_step ((go_at_call 58;exact Calls.in_ (Ref.hint_any x.c.t x.c.c x.c.wd x.c.v x.key hc.t1 hc.t8 hk.1 hk.2 _))))
  exact wpQuiet_nil rfl
 refine lo 12 (fun w3 F3=>?_)
 have D3:=(Fr.refl [] w).drew.trans F3
 have A3:=hA.kept D3
 have h3:=Ob.up h D3
 clear hA h F3
 go_wp2_with fail
 refine (Ref.load_any _ p q s _ A3).mono ?_;rintro e w4 ⟨rfl,A4,F4⟩
 go_wp2_with fail
 refine nx_normal ⟨(D3.mono).trans F4,?_⟩
 refine envL_tail (k:=13) rfl (by kernel_rfl) (fun w5 F5=>?_)
 have A5:=A4.kept F5
 have h5:WkAt w5 b x:=(h3.kept F4 (by simp;exact ⟨hp,hq⟩)).up F5
 have D5:Fr [b,p,q] w w5:=((D3.mono).trans (F4.mono)).then F5
 clear A3 A4 h3 F4 F5 D3
 have e2:3+x.c.t+x.key / 16=hintP x.c x.key:=rfl
 rw [e2] at A5 ⊢
 obtain ⟨c0,c1,c2,c3,c4,c5,c6,c7,c8,c9⟩:=wk_cells h5
 have z:=h5.frozen
 generalize hv:peek s.l (hintP x.c x.key)=v at *
 by_cases hv0:v=0
 ·have hn:y=({ x with x:=0,line:=2 }:Wk).head:=by rw [← HY.out];subst hv0;unfold Wk.next;simp [hl]
  subst hn
  go_wp2_with fail
  have h6:WkAt _ b ({ x with x:=0,line:=2 }:Wk):=(h5.set (i:=6) (.int .i64 0)).set (i:=5) (.int .i64 2)
  have A6:=(A5.set hp hq (i:=6) (.int .i64 0)).set hp hq (i:=5) (.int .i64 2)
  have D6:=(D5.setCell' (b:=b) (i:=6) (.int .i64 0) (by simp)).setCell' (b:=b) (i:=5) (.int .i64 2) (by simp)
  generalize ((w5.setCell ⟨b,6,none⟩ (.int .i64 0)).setCell ⟨b,5,none⟩ (.int .i64 2))=w6 at *
  clear c0 c1 c2 c3 c4 c5 c6 c7 c8 c9 z h5 A5 D5
  refine (walk_head { x with x:=0,line:=2 } hc b _ h6).mono ?_;rintro e w7 ⟨rfl,h7,F7⟩
  have A7:=A6.kept F7 (by simp;exact hp.symm) (by simp;exact hq.symm)
  have D7:=frSub D6 F7 (by simp)
  clear h6 A6 D6 F7
  obtain ⟨-,-,-,-,-,c5,-,-,-,-⟩:=wk_cells h7
  go_wp2
  go_ret
  exact ⟨rfl,h7,A7,D7⟩
 ·have hn:y = { x with x:=v,line:=2 }:=by rw [← HY.out];unfold Wk.next;simp [hl,hv0]
  subst hn
  go_wp2_with fail
  go_ret
  exact ⟨rfl,(h5.set _).set _,(A5.set hp hq _).set hp hq _,(D5.setCell' (b:=b) _ (by simp)).setCell' (b:=b) _ (by simp)⟩
theorem walk_step2 (x:Wk) (hl:x.line=2) (hc:x.c.Ok) (b p q:Nat) (s:St) (w:World) (h:WkAt w b x) (hA:Rar w p q s) (hp:b≠p) (hq:b≠q) :
  Calls Tryz.prog 168 #[.pointer (some ⟨b,0,none⟩),.pointer (some ⟨p,0,none⟩)] w fun e w'=>e = .returned (.bool (decide ((x.next (peek s.l (wrap64 (x.x+6)))).line=0)))∧WkAt w' b (x.next (peek s.l (wrap64 (x.x+6))))∧Rar w' p q (s.load (wrap64 (x.x+6)))∧Fr [b,p,q] w w':=by
 generalize hy:x.next (peek s.l (wrap64 (x.x+6)))=y
 have HY:=Lib.hid hy
 clear hy
 obtain ⟨c0,c1,c2,c3,c4,c5,c6,c7,c8,c9⟩:=wk_cells h
 have z:=h.frozen
 go_enter Tryz.func168,Tryz.ntmps168
 go_wp2_with fail
 have A1:=hA.set hp hq (i:=5) (.int .i64 3)
 have h1:WkAt _ b ({ x with line:=3 }:Wk):=Ob.set h (i:=5) (.int .i64 3)
 have D1:Fr [b,p,q] w (w.setCell ⟨b,5,none⟩ (.int .i64 3)):=Fr.setCell (b:=b) _ (by simp)
 clear c0 c1 c2 c3 c4 c5 c6 c7 c8 c9 z
 generalize (w.setCell ⟨b,5,none⟩ (.int .i64 3))=w1 at *
 refine (Ref.load_any _ p q s _ A1).mono ?_;rintro e w5 ⟨rfl,A5,F5⟩
 have h5:=Ob.kept h1 F5 (by simp;exact ⟨hp,hq⟩)
 have D5:=frSub D1 F5 (by simp)
 clear A1 h1 D1 F5 hA h
 obtain ⟨c0,c1,c2,c3,c4,c5,c6,c7,c8,c9⟩:=wk_cells h5
 generalize hv:peek s.l (wrap64 (x.x+6))=v at *
 by_cases hv0:v=0
 ·have hn:y = { x with line:=3 }:=by rw [← HY.out];subst hv0;unfold Wk.next;simp [hl]
  subst hn
  go_wp2_with fail
  go_ret
  exact ⟨rfl,h5,A5,D5⟩
 ·have hn:y=({ x with line:=3 }:Wk).head:=by rw [← HY.out];unfold Wk.next;simp [hl,hv0]
  subst hn
  go_wp2_with fail
  refine (walk_head { x with line:=3 } hc b _ h5).mono ?_;rintro e w7 ⟨rfl,h7,F7⟩
  have A7:=(A5).kept F7 (by simp;exact hp.symm) (by simp;exact hq.symm)
  have D7:=frSub (D5) F7 (by simp)
  obtain ⟨-,-,-,-,-,c5,-,-,-,-⟩:=wk_cells h7
  go_wp2
  go_ret
  exact ⟨rfl,h7,A7,D7⟩
theorem walk_step3 (x:Wk) (hl:x.line=3) (hc:x.c.Ok) (b p q:Nat) (s:St) (w:World) (h:WkAt w b x) (hA:Rar w p q s) (hp:b≠p) (hq:b≠q) :
  Calls Tryz.prog 168 #[.pointer (some ⟨b,0,none⟩),.pointer (some ⟨p,0,none⟩)] w fun e w'=>e = .returned (.bool (decide ((x.next (peek s.l (wrap64 x.x))).line=0)))∧WkAt w' b (x.next (peek s.l (wrap64 x.x)))∧Rar w' p q (s.load (wrap64 x.x))∧Fr [b,p,q] w w':=by
 generalize hy:x.next (peek s.l (wrap64 x.x))=y
 have HY:=Lib.hid hy
 clear hy
 obtain ⟨c0,c1,c2,c3,c4,c5,c6,c7,c8,c9⟩:=wk_cells h
 have z:=h.frozen
 go_enter Tryz.func168,Tryz.ntmps168
 go_wp2_with fail
 clear c0 c1 c2 c3 c4 c5 c6 c7 c8 c9 z
 refine wp_region_env (by kernel_rfl) [p,q] (fun w2 F2=>?_)
 refine ep [true,true,true,true,true,true,false,true,true,true,true,false] 2 (F2.mono) ?_
 apply Exists.intro
 refine ⟨fun wf Ff=>?_,?_⟩
 ·have hf:WkAt wf b x:=Ob.kept h Ff (by simp;exact ⟨hp,hq⟩)
  obtain ⟨-,-,-,-,c4,-,c6,-,c8,-⟩:=wk_cells hf
  have k4:=In.cell c4
  have k6:=In.cell c6
  have k8:=In.cell c8
  clear c4 c6 c8
  simp only [sel]
  repeat (go_big_quiet_step (fail))
  exact wpQuiet_nil rfl
 refine eo 6 (fun w3 F3=>?_)
 have D3:=F2.trans F3
 have A3:=hA.kept D3
 have h3:=Ob.up h D3
 clear hA h F2 F3
 go_wp2_with fail
 refine (Ref.load_any _ p q s _ A3).mono ?_;rintro e w4 ⟨rfl,A4,F4⟩
 have D4:=(D3.mono (T:=[p,q]) (by simp)).trans F4
 have h4:=h3.kept F4 (by simp;exact ⟨hp,hq⟩)
 clear A3 h3 F4 D3
 go_wp2_with fail
 refine nx_normal ⟨D4,?_⟩
 refine eo 11 (fun w5 F5=>?_)
 have D5:=D4.then F5
 have h5:=h4.up F5
 have A5:=A4.kept F5
 clear A4 h4 F5 D4
 go_wp2
 refine nx_normal ⟨D5,?_⟩
 refine env_done (by kernel_rfl) (fun w6 F6=>?_)
 have D6:Fr [b,p,q] w w6:=(D5.then F6).mono (by simp)
 have h6:WkAt w6 b x:=h5.up F6
 have A6:=A5.kept F6
 clear A5 h5 F6 D5
 obtain ⟨c0,c1,c2,c3,c4,c5,c6,c7,c8,c9⟩:=wk_cells h6
 have z:=h6.frozen
 generalize hv:peek s.l (wrap64 x.x)=v at *
 by_cases hv0:v≤x.key
 ·have hn:y = { x with cur:=x.x,line:=5 }:=by rw [← HY.out];unfold Wk.next;simp [hl,hv0]
  subst hn
  have g:decide (v≤x.key)=true:=by simpa using hv0
  go_wp2_with fail
  go_ret
  exact ⟨rfl,(h6.set _).set _,(A6.set hp hq _).set hp hq _,(D6.setCell' (b:=b) _ (by simp)).setCell' (b:=b) _ (by simp)⟩
 ·have hn:y=x.head:=by rw [← HY.out];unfold Wk.next;simp [hl,hv0]
  subst hn
  have g:decide (v≤x.key)=false:=by simpa using hv0
  go_wp2_with fail
  refine (walk_head x hc b _ h6).mono ?_;rintro e w7 ⟨rfl,h7,F7⟩
  have A7:=(A6).kept F7 (by simp;exact hp.symm) (by simp;exact hq.symm)
  have D7:=frSub (D6) F7 (by simp)
  obtain ⟨-,-,-,-,-,c5,-,-,-,-⟩:=wk_cells h7
  go_wp2
  go_ret
  exact ⟨rfl,h7,A7,D7⟩
theorem walk_step6 (x:Wk) (hl:x.line=6) (hc:x.c.Ok) (b p q:Nat) (s:St) (w:World) (h:WkAt w b x) (hA:Rar w p q s) (hp:b≠p) (hq:b≠q) :
  Calls Tryz.prog 168 #[.pointer (some ⟨b,0,none⟩),.pointer (some ⟨p,0,none⟩)] w fun e w'=>e = .returned (.bool (decide ((x.next (peek s.l (wrap64 x.n))).line=0)))∧WkAt w' b (x.next (peek s.l (wrap64 x.n)))∧Rar w' p q (s.load (wrap64 x.n))∧Fr [b,p,q] w w':=by
 generalize hy:x.next (peek s.l (wrap64 x.n))=y
 have HY:=Lib.hid hy
 clear hy
 obtain ⟨c0,c1,c2,c3,c4,c5,c6,c7,c8,c9⟩:=wk_cells h
 have z:=h.frozen
 go_enter Tryz.func168,Tryz.ntmps168
 go_wp2_with fail
 clear c0 c1 c2 c3 c4 c5 c6 c7 c8 c9 z
 refine wp_region_env (by kernel_rfl) [p,q] (fun w2 F2=>?_)
 refine ep [true,true,true,true,true,true,false,true,true,true,true,false] 2 (F2.mono) ?_
 apply Exists.intro
 refine ⟨fun wf Ff=>?_,?_⟩
 ·have hf:WkAt wf b x:=Ob.kept h Ff (by simp;exact ⟨hp,hq⟩)
  obtain ⟨-,-,-,-,c4,-,c6,-,c8,-⟩:=wk_cells hf
  have k4:=In.cell c4
  have k6:=In.cell c6
  have k8:=In.cell c8
  clear c4 c6 c8
  simp only [sel]
  repeat (go_big_quiet_step (fail))
  exact wpQuiet_nil rfl
 refine eo 6 (fun w3 F3=>?_)
 have D3:=F2.trans F3
 have A3:=hA.kept D3
 have h3:=Ob.up h D3
 clear hA h F2 F3
 go_wp2_with fail
 refine (Ref.load_any _ p q s _ A3).mono ?_;rintro e w4 ⟨rfl,A4,F4⟩
 have D4:=(D3.mono (T:=[p,q]) (by simp)).trans F4
 have h4:=h3.kept F4 (by simp;exact ⟨hp,hq⟩)
 clear A3 h3 F4 D3
 go_wp2_with fail
 refine nx_normal ⟨D4,?_⟩
 refine eo 11 (fun w5 F5=>?_)
 have D5:=D4.then F5
 have h5:=h4.up F5
 have A5:=A4.kept F5
 clear A4 h4 F5 D4
 go_wp2
 refine nx_normal ⟨D5,?_⟩
 refine env_done (by kernel_rfl) (fun w6 F6=>?_)
 have D6:Fr [b,p,q] w w6:=(D5.then F6).mono (by simp)
 have h6:WkAt w6 b x:=h5.up F6
 have A6:=A5.kept F6
 clear A5 h5 F6 D5
 obtain ⟨c0,c1,c2,c3,c4,c5,c6,c7,c8,c9⟩:=wk_cells h6
 have z:=h6.frozen
 generalize hv:peek s.l (wrap64 x.n)=v at *
 by_cases hv0:v≤x.key
 ·have hn:y = { x with cur:=x.n,line:=5 }:=by rw [← HY.out];unfold Wk.next;simp [hl,hv0]
  subst hn
  have g:decide (v≤x.key)=true:=by simpa using hv0
  go_wp2_with fail
  go_ret
  exact ⟨rfl,(h6.set _).set _,(A6.set hp hq _).set hp hq _,(D6.setCell' (b:=b) _ (by simp)).setCell' (b:=b) _ (by simp)⟩
 ·have hn:y=x.ends:=by rw [← HY.out];unfold Wk.next;simp [hl,hv0]
  subst hn
  have g:decide (v≤x.key)=false:=by simpa using hv0
  go_wp2_with fail
  refine (walk_ends _ b _ h6).mono ?_;rintro e w7 ⟨rfl,h7,F7⟩
  have A7:=(A6).kept F7 (by simp;exact hp.symm) (by simp;exact hq.symm)
  have D7:=frSub (D6) F7 (by simp)
  obtain ⟨-,-,-,-,-,c5,-,-,-,-⟩:=wk_cells h7
  go_wp2
  go_ret
  exact ⟨rfl,h7,A7,D7⟩
theorem walk_step5 (x:Wk) (hl:x.line=5) (hc:x.c.Ok) (b p q:Nat) (s:St) (w:World) (h:WkAt w b x) (hA:Rar w p q s) (hp:b≠p) (hq:b≠q) :
  Calls Tryz.prog 168 #[.pointer (some ⟨b,0,none⟩),.pointer (some ⟨p,0,none⟩)] w fun e w'=>e = .returned (.bool (decide ((x.next (peek s.l (wrap64 (x.cur+2)))).line=0)))∧WkAt w' b (x.next (peek s.l (wrap64 (x.cur+2))))∧Rar w' p q (s.load (wrap64 (x.cur+2)))∧Fr [b,p,q] w w':=by
 generalize hy:x.next (peek s.l (wrap64 (x.cur+2)))=y
 have HY:=Lib.hid hy
 clear hy
 obtain ⟨c0,c1,c2,c3,c4,c5,c6,c7,c8,c9⟩:=wk_cells h
 have z:=h.frozen
 go_enter Tryz.func168,Tryz.ntmps168
 go_wp2_with fail
 refine (Ref.load_any _ p q s _ hA).mono ?_;rintro e w5 ⟨rfl,A5,F5⟩
 have h5:WkAt w5 b x:=Ob.kept h F5 (by simp;exact ⟨hp,hq⟩)
 have D5:Fr [b,p,q] w w5:=F5.mono
 clear c0 c1 c2 c3 c4 c5 c6 c7 c8 c9 z
 clear F5 hA h
 go_wp2_with fail
 refine (at_any _ _).mono ?_;rintro e _ ⟨rfl,rfl⟩
 obtain ⟨c0,c1,c2,c3,c4,c5,c6,c7,c8,c9⟩:=wk_cells h5
 have z:=h5.frozen
 generalize hv:atW (peek s.l (wrap64 (x.cur+2)))=v at *
 by_cases hv0:v=0
 ·have hn:y=({ x with n:=0,line:=6 }:Wk).ends:=by rw [← HY.out];unfold Wk.next;simp [hl,hv,hv0]
  subst hn
  go_wp2_with fail
  have h6:WkAt _ b ({ x with n:=0,line:=6 }:Wk):=(h5.set (i:=8) (.int .i64 0)).set (i:=5) (.int .i64 6)
  have A6:=(A5.set hp hq (i:=8) (.int .i64 0)).set hp hq (i:=5) (.int .i64 6)
  have D6:=(D5.setCell' (b:=b) (i:=8) (.int .i64 0) (by simp)).setCell' (b:=b) (i:=5) (.int .i64 6) (by simp)
  generalize ((w5.setCell ⟨b,8,none⟩ (.int .i64 0)).setCell ⟨b,5,none⟩ (.int .i64 6))=w6 at *
  clear c0 c1 c2 c3 c4 c5 c6 c7 c8 c9 z h5 A5 D5
  refine (walk_ends _ b _ h6).mono ?_;rintro e w7 ⟨rfl,h7,F7⟩
  have A7:=(A6).kept F7 (by simp;exact hp.symm) (by simp;exact hq.symm)
  have D7:=frSub (D6) F7 (by simp)
  obtain ⟨-,-,-,-,-,c5,-,-,-,-⟩:=wk_cells h7
  go_wp2
  go_ret
  exact ⟨rfl,h7,A7,D7⟩
 ·have hn:y = { x with n:=v,line:=6 }:=by rw [← HY.out];unfold Wk.next;simp [hl,hv,hv0]
  subst hn
  go_wp2_with fail
  go_ret
  exact ⟨rfl,(h5.set _).set _,(A5.set hp hq _).set hp hq _,(D5.setCell' (b:=b) _ (by simp)).setCell' (b:=b) _ (by simp)⟩
theorem walk_step0 (x:Wk) (hl:x.live=false) (b p q:Nat) (w:World) (h:WkAt w b x) :
  Calls Tryz.prog 168 #[.pointer (some ⟨b,0,none⟩),.pointer (some ⟨p,0,none⟩)] w fun e w'=>e = .returned (.bool (decide (x.line=0)))∧w=w':=by
 obtain ⟨-,-,-,-,-,c5,-,-,-,-⟩:=wk_cells h
 unfold Wk.live at hl
 simp only [Bool.or_eq_false_iff] at hl
 obtain ⟨⟨⟨⟨l1,l2⟩,l3⟩,l5⟩,l6⟩:=hl
 go_enter Tryz.func168,Tryz.ntmps168
 simp only [decide_eq_false_iff_not] at l1 l2 l3 l5 l6
 go_wp2_with fail
 go_ret
 exact ⟨rfl,rfl⟩
theorem walk_step (x:Wk) (hc:x.c.Ok) (hk:0≤x.key∧x.key≤63) (b p q:Nat) (s:St) (w:World) (h:WkAt w b x) (hA:Rar w p q s) (hp:b≠p) (hq:b≠q) :
  Calls Tryz.prog 168 #[.pointer (some ⟨b,0,none⟩),.pointer (some ⟨p,0,none⟩)] w fun e w'=>e = .returned (.bool (decide ((x.step s).1.line=0)))∧WkAt w' b (x.step s).1∧Rar w' p q (x.step s).2∧Fr [b,p,q] w w':=by
 unfold Wk.step
 cases hl:x.live with
 | false=>exact (walk_step0 x hl b p q w h).mono (by rintro e w' ⟨rfl,rfl⟩;exact ⟨rfl,h,hA,Fr.refl _ _⟩)
 | true =>
  unfold Wk.live at hl
  simp only [Bool.or_eq_true,decide_eq_true_eq] at hl
  rcases hl with (((l | l) | l) | l) | l
  ·rw [if_pos rfl,show x.looks=hintP x.c x.key by unfold Wk.looks;simp [l]];exact walk_step1 x l hc hk b p q s w h hA hp hq
  ·rw [if_pos rfl,show x.looks=wrap64 (x.x+6) by unfold Wk.looks;simp [l]];exact walk_step2 x l hc b p q s w h hA hp hq
  ·rw [if_pos rfl,show x.looks=wrap64 x.x by unfold Wk.looks;simp [l]];exact walk_step3 x l hc b p q s w h hA hp hq
  ·rw [if_pos rfl,show x.looks=wrap64 (x.cur+2) by unfold Wk.looks;simp [l]];exact walk_step5 x l hc b p q s w h hA hp hq
  ·rw [if_pos rfl,show x.looks=wrap64 x.n by unfold Wk.looks;simp [l]];exact walk_step6 x l hc b p q s w h hA hp hq
def ins (l:List Int) (v:Int):List Int :=
 match l with
 | []=>[v]
 | x :: r=>if x<v then x :: ins r v else if x=v then x :: r else v :: x :: r
theorem ins_same {l:List Int} {v:Int} {k:Nat} (h1:∀ i x,i<k→l[i]? = some x→x<v) (h2:l[k]? = some v):ins l v=l:=by
 induction l generalizing k with
 | nil=>simp at h2
 | cons x r ih =>
  unfold ins
  cases k with
  | zero=>simp at h2;subst h2;simp
  | succ k =>
   rw [if_pos (h1 0 x (by omega) rfl),ih (k:=k) (fun i y hi hy=>h1 (i+1) y (by omega) hy) (by simpa using h2)]
theorem ins_new {l:List Int} {v:Int} {k:Nat} (hk:k≤l.length) (h1:∀ i x,i<k→l[i]? = some x→x<v) (h2:∀ x,l[k]? = some x→v<x):ins l v=l.take k++[v]++l.drop k:=by
 induction l generalizing k with
 | nil=>simp at hk;subst hk;rfl
 | cons x r ih =>
  unfold ins
  cases k with
  | zero =>
   have:=h2 x rfl
   rw [if_neg (by omega),if_neg (by omega)];rfl
  | succ k =>
   rw [if_pos (h1 0 x (by omega) rfl),ih (k:=k) (by simpa using hk) (fun i y hi hy=>h1 (i+1) y (by omega) hy) (fun y hy=>h2 y (by simpa using hy))]
   simp
structure NdB where
 c:Cf
 t:Int
 line:Int
 e:Int
 v:Int
 l:List Int
def NdB.cells (x:NdB) (lv:Value):Array Value:=#[.int .i64 x.c.t,.int .i64 x.c.c,.int .i64 x.c.wd,.int .i64 x.c.v,.int .i64 x.t,.int .i64 x.line,.int .i64 x.e,.int .i64 x.v,lv]
theorem nd_cells {w:World} {b:Nat} {x:NdB} {lv:Value} (h:Ob w b 300 (x.cells lv)):w.cell? ⟨b,0,none⟩=some (.int .i64 x.c.t)∧w.cell? ⟨b,1,none⟩=some (.int .i64 x.c.c)∧w.cell? ⟨b,2,none⟩=some (.int .i64 x.c.wd)∧w.cell? ⟨b,3,none⟩=some (.int .i64 x.c.v)∧w.cell? ⟨b,4,none⟩=some (.int .i64 x.t)∧w.cell? ⟨b,5,none⟩=some (.int .i64 x.line)∧w.cell? ⟨b,6,none⟩=some (.int .i64 x.e)∧w.cell? ⟨b,7,none⟩=some (.int .i64 x.v)∧w.cell? ⟨b,8,none⟩=some lv :=
 ⟨h.cell rfl,h.cell rfl,h.cell rfl,h.cell rfl,h.cell rfl,h.cell rfl,h.cell rfl,h.cell rfl,h.cell rfl⟩
def MetAt (l:List Int) (v:Int) (u:Value) (w wr:World):Prop:=∃ k,k≤l.length∧u = .int .i64 (k:Nat)∧wr=w∧∀ i x,i<k→l[i]? = some x→x<v
theorem need_met (x:NdB) (v:Int) (b:Nat) (lv:Value) (w:World) (hl:x.l.length≤1000) (h:Ob w b 300 (x.cells lv)) (hs:Sq fI w lv x.l) (hb:b∉lv.ownBlock.toList) :
  Calls Tryz.prog 223 #[.pointer (some ⟨b,0,none⟩),.int .i64 v] w fun e w'=>e = .returned (.tuple #[])∧(∃ lv',Ob w' b 300 (({ x with l:=ins x.l v }:NdB).cells lv')∧Sq fI w' lv' (ins x.l v)∧(lv'=lv∨∀ g,g∈lv'.ownBlock.toList→w.heap.size≤g))∧Fr [b] w w':=by
 obtain ⟨a,cap,rfl,hcap,hmax,hc⟩:=id hs
 obtain ⟨-,-,-,-,-,-,-,-,c8⟩:=nd_cells h
 have HC:=Lib.hid hc
 clear hc
 go_enter Tryz.func223,Tryz.ntmps223
 go_wp2_with fail
 go_loopw [4] (fun u wr=>MetAt x.l v u w wr) (fun u _=>x.l.length - (intOf u).toNat)
 case atStart=>exact ⟨0,Nat.zero_le _,rfl,rfl,by omega⟩
 case round =>
  obtain ⟨k,hk,rfl,rfl,h1⟩:=hrel
  by_cases hlt:k<x.l.length
  ·obtain ⟨y,hy⟩:∃ y,x.l[k]? = some y:=⟨x.l[k],List.getElem?_eq_getElem hlt⟩
   obtain ⟨-,g,off,rfl,hcell⟩:=Sq.cell fI_lays hs hy
   have d0:=hcell 0 (.int .i64 y) rfl
   rw [Nat.mul_one,Nat.add_zero] at d0
   by_cases hyv:y<v
   ·have g1:decide (y<v)=true:=by simpa using hyv
    go_wp2_with fail
    go_roundw
    case rel=>exact ⟨k+1,by omega,by go_num,rfl,fun i z hi hz=>by
     by_cases e:i=k
     ·subst e;rw [hy] at hz;cases hz;exact hyv
     ·exact h1 i z (by omega) hz⟩
    case measure=>simp [intOf];omega
   have g1:decide (y<v)=false:=by simpa using hyv
   by_cases he:y=v
   ·subst he
    have hi:=ins_same h1 hy
    have HI:=Lib.hid hi
    clear hi
    have b0:(((k:Nat):Int) == ((x.l.length:Nat):Int))=false:=by simp;omega
    go_wp2_with fail
    go_end0
    exact ⟨rfl,⟨_,by rw [HI.out];exact h,by rw [HI.out];exact hs,.inl rfl⟩,Fr.refl _ _⟩
   have hn:=Lib.hid (ins_new (by omega) h1 (fun z hz=>by rw [hy] at hz;cases hz;omega))
   have b0:(((k:Nat):Int) == ((x.l.length:Nat):Int))=false:=by simp;omega
   have b1:(y != v)=true:=by simpa using he
   go_wp2_with fail
   have HS:=Lib.hid hs
   clear c8 hs
   refine wp_region_free (by kernel_rfl) ?_
   refine any_envL [] wr #[true,true,true,true,true,true,true,true,true,true,true,true,true,true,true,true,true,true,false,false,false] 18 3 rfl ?_
   refine lp [true,true,true,true,true,true,true,false,true,false,false,true,true,true,true,true,true,false,false,false,false] 4 ((Fr.refl _ wr).drew) ?_
   apply Exists.intro
   refine ⟨fun wf Ff=>?_,?_⟩
   ·obtain ⟨-,-,-,-,-,-,-,-,c8⟩:=nd_cells (h.up Ff)
    have k8:=In.cell c8
    clear c8
    simp only [sel]
    repeat (go_big_quiet_step (fail))
    exact wpQuiet_nil rfl
   have HS1:=Lib.hid (Sq.take fI_lays HS.out k (by omega))
   have HS2:=Lib.hid (Sq.drop fI_lays HS.out k (by omega))
   rw [Nat.mul_one] at HS2
   have HT:=Lib.hid (show (x.l.take k).length≤1000∧(x.l.drop k).length≤1000∧ins x.l v=x.l.take k++[v]++x.l.drop k from ⟨by simp;omega,by simp;omega,hn.out⟩)
   generalize x.l.take k=T1 at HS1 HT
   generalize x.l.drop k=T2 at HS2 HT
   refine envL_ready [7,9] (by kernel_rfl) (by simp) (fun w10 F10 i hi o ho=>?_)
   have G:=(Fr.refl [] wr).drew.trans F10
   clear F10
   simp only [List.mem_cons,List.not_mem_nil,or_false] at hi
   rcases hi with rfl | rfl
   focus
    obtain rfl:=Option.some.inj ho
    go_wp2_with (at_builtin;refine wpList_appSq fI_lays rfl _ _ 25 rfl Tryz.underlying25 intI rfl (B:=wr.heap.size) (.slice none 0 0) [] rfl ⟨rfl,.inl ⟨rfl,rfl⟩⟩ _ T1 rfl (HS1.out.up G) (by have:=HT.out;simp;omega) (by decide) G.size ?_;intro a21 c21 w21 r21 f21)
    rw [List.nil_append] at r21
    replace G:=G.trans f21
    clear f21
    refine nx_normal ⟨G,?_⟩
    refine lo 9 (fun w11 F11=>?_)
    have r11:=row_keeps r21 F11
    replace G:=G.trans F11
    clear r21 F11
    go_wp2_with fail
    have F12:=(Fr.refl [] w11).alloc (.cells #[.int .i64 v] 3)
    have B12:=Go.heap_alloc_new w11 (.cells #[.int .i64 v] 3)
    have r12:=row_keeps r11 F12
    replace G:=G.trans F12
    clear r11 F12 ho
    refine nx_normal ⟨G,?_⟩
    refine lo 10 (fun w13 F13=>?_)
    have r22:=row_keeps r12 F13
    have B22:=F13.heap B12 (by simp)
    replace G:=G.trans F13
    clear r12 B12 F13
   rotate_left
   focus
    obtain rfl:=Option.some.inj ho
    go_wp2_with fail
    have F12:=(Fr.refl [] w10).alloc (.cells #[.int .i64 v] 3)
    have B12:=Go.heap_alloc_new w10 (.cells #[.int .i64 v] 3)
    replace G:=G.trans F12
    clear F12 ho
    refine nx_normal ⟨G,?_⟩
    refine lo 7 (fun w11 F11=>?_)
    have B13:=F11.heap B12 (by simp)
    replace G:=G.trans F11
    clear B12 F11
    go_wp2_with (at_builtin;refine wpList_appSq fI_lays rfl _ _ 25 rfl Tryz.underlying25 intI rfl (B:=wr.heap.size) (.slice none 0 0) [] rfl ⟨rfl,.inl ⟨rfl,rfl⟩⟩ _ T1 rfl (HS1.out.up G) (by have:=HT.out;simp;omega) (by decide) G.size ?_;intro a21 c21 w21 r21 f21)
    rw [List.nil_append] at r21
    have B21:=Fr.heap f21 B13 (by simp [Value.ownBlock])
    replace G:=G.trans f21
    clear f21 B13
    refine nx_normal ⟨G,?_⟩
    refine lo 10 (fun w13 F13=>?_)
    have r22:=row_keeps r21 F13
    have B22:=F13.heap B21 (by simp)
    replace G:=G.trans F13
    clear r21 B21 F13
   rotate_left
   all_goals
    go_wp2_with (at_builtin;refine wpList_appSq fI_lays rfl _ _ 25 rfl Tryz.underlying25 intI rfl (B:=wr.heap.size) _ T1 rfl r22 _ [v] rfl (Sq.block B22 rfl rfl (Nat.le_refl _) (by simp [maxLen])) (by have:=HT.out;simp;omega) (by decide) G.size ?_;intro a23 c23 w23 r23 f23;generalize hT3:T1++[v]=T3 at r23 ⊢)
    replace G:=G.own f23 (row_base r22)
    clear f23 r22 B22
    refine nx_normal ⟨G,?_⟩
    refine lo 17 (fun w14 F14=>?_)
    have r24:=row_keeps r23 F14
    replace G:=G.trans F14
    clear r23 F14
    go_wp2_with (at_builtin;refine wpList_appSq fI_lays rfl _ _ 25 rfl Tryz.underlying25 intI rfl (B:=wr.heap.size) _ T3 rfl r24 _ T2 rfl (HS2.out.up G) (by have:=HT.out;rw [← hT3];simp;omega) (by decide) G.size ?_;intro a25 c25 w25 r25 f25;generalize hT4:T3++T2=T4 at r25 ⊢)
    replace G:=G.own f25 (row_base r24)
    clear f25 r24
    refine nx_normal ⟨G,?_⟩
    refine envL_tail (k:=18) rfl (by kernel_rfl) (fun w15 F15=>?_)
    have r26:=row_keeps r25 F15
    replace G:=G.trans F15
    clear r25 F15
    have h26:=h.up G
    have z26:=h26.frozen
    obtain ⟨-,-,-,-,-,-,-,-,c8⟩:=nd_cells h26
    go_wp2_with fail
    go_end0
    have hlt26:b<wr.heap.size:=h.lt
    have e26:ins x.l v=T4:=by rw [HT.out.2.2,hT3,hT4]
    rw [← e26] at r26 ⊢
    refine ⟨rfl,⟨_,Ob.set h26 (i:=8) _,(Sq.own r26).kept (Fr.setCell (S:=[b]) _ (by simp)) (fun g hg hi=>?_),.inr (row_base r26)⟩,(G.mono).trans (Fr.setCell _ (by simp))⟩
    have:=row_base r26 g hg
    simp at hi
    omega
  ·obtain rfl:k=x.l.length:=by omega
   have hn:=Lib.hid (ins_new (Nat.le_refl _) h1 (fun z hz=>by simp at hz))
   have b0:(((x.l.length:Nat):Int) == ((x.l.length:Nat):Int))=true:=by simp
   go_wp2_with fail
   have HS:=Lib.hid hs
   clear c8 hs
   refine wp_region_free (by kernel_rfl) ?_
   refine any_envL [] wr #[true,true,true,true,true,true,true,true,true,true,true,true,true,true,true,true,true,true,false,false,false] 18 3 rfl ?_
   refine lp [true,true,true,true,true,true,true,false,true,false,false,true,true,true,true,true,true,false,false,false,false] 4 ((Fr.refl _ wr).drew) ?_
   apply Exists.intro
   refine ⟨fun wf Ff=>?_,?_⟩
   ·obtain ⟨-,-,-,-,-,-,-,-,c8⟩:=nd_cells (h.up Ff)
    have k8:=In.cell c8
    clear c8
    simp only [sel]
    repeat (go_big_quiet_step (fail))
    exact wpQuiet_nil rfl
   have HS1:=HS
   rw [List.take_length,List.drop_length] at hn
   have HT:=Lib.hid (show x.l.length≤1000∧([]:List Int).length≤1000∧ins x.l v=x.l++[v]++[] from ⟨hl,by simp,hn.out⟩)
   have hcm:cap - x.l.length≤maxLen:=by omega
   generalize (if cap=x.l.length then a else Option.map (fun y=>y.add x.l.length) a)=a2
   generalize cap - x.l.length=c2 at hcm ⊢
   have HS2:=Lib.hid (Sq.empty (f:=fI) wr a2 hcm)
   refine envL_ready [7,9] (by kernel_rfl) (by simp) (fun w10 F10 i hi o ho=>?_)
   have G:=(Fr.refl [] wr).drew.trans F10
   clear F10
   simp only [List.mem_cons,List.not_mem_nil,or_false] at hi
   rcases hi with rfl | rfl
   focus
    obtain rfl:=Option.some.inj ho
    go_wp2_with (at_builtin;refine wpList_appSq fI_lays rfl _ _ 25 rfl Tryz.underlying25 intI rfl (B:=wr.heap.size) (.slice none 0 0) [] rfl ⟨rfl,.inl ⟨rfl,rfl⟩⟩ _ x.l rfl (HS1.out.up G) (by have:=HT.out;simp;omega) (by decide) G.size ?_;intro a21 c21 w21 r21 f21)
    rw [List.nil_append] at r21
    replace G:=G.trans f21
    clear f21
    refine nx_normal ⟨G,?_⟩
    refine lo 9 (fun w11 F11=>?_)
    have r11:=row_keeps r21 F11
    replace G:=G.trans F11
    clear r21 F11
    go_wp2_with fail
    have F12:=(Fr.refl [] w11).alloc (.cells #[.int .i64 v] 3)
    have B12:=Go.heap_alloc_new w11 (.cells #[.int .i64 v] 3)
    have r12:=row_keeps r11 F12
    replace G:=G.trans F12
    clear r11 F12 ho
    refine nx_normal ⟨G,?_⟩
    refine lo 10 (fun w13 F13=>?_)
    have r22:=row_keeps r12 F13
    have B22:=F13.heap B12 (by simp)
    replace G:=G.trans F13
    clear r12 B12 F13
   rotate_left
   focus
    obtain rfl:=Option.some.inj ho
    go_wp2_with fail
    have F12:=(Fr.refl [] w10).alloc (.cells #[.int .i64 v] 3)
    have B12:=Go.heap_alloc_new w10 (.cells #[.int .i64 v] 3)
    replace G:=G.trans F12
    clear F12 ho
    refine nx_normal ⟨G,?_⟩
    refine lo 7 (fun w11 F11=>?_)
    have B13:=F11.heap B12 (by simp)
    replace G:=G.trans F11
    clear B12 F11
    go_wp2_with (at_builtin;refine wpList_appSq fI_lays rfl _ _ 25 rfl Tryz.underlying25 intI rfl (B:=wr.heap.size) (.slice none 0 0) [] rfl ⟨rfl,.inl ⟨rfl,rfl⟩⟩ _ x.l rfl (HS1.out.up G) (by have:=HT.out;simp;omega) (by decide) G.size ?_;intro a21 c21 w21 r21 f21)
    rw [List.nil_append] at r21
    have B21:=Fr.heap f21 B13 (by simp [Value.ownBlock])
    replace G:=G.trans f21
    clear f21 B13
    refine nx_normal ⟨G,?_⟩
    refine lo 10 (fun w13 F13=>?_)
    have r22:=row_keeps r21 F13
    have B22:=F13.heap B21 (by simp)
    replace G:=G.trans F13
    clear r21 B21 F13
   rotate_left
   all_goals
    go_wp2_with (at_builtin;refine wpList_appSq fI_lays rfl _ _ 25 rfl Tryz.underlying25 intI rfl (B:=wr.heap.size) _ x.l rfl r22 _ [v] rfl (Sq.block B22 rfl rfl (Nat.le_refl _) (by simp [maxLen])) (by have:=HT.out;simp;omega) (by decide) G.size ?_;intro a23 c23 w23 r23 f23;generalize hT3:x.l++[v]=T3 at r23 ⊢)
    replace G:=G.own f23 (row_base r22)
    clear f23 r22 B22
    refine nx_normal ⟨G,?_⟩
    refine lo 17 (fun w14 F14=>?_)
    have r24:=row_keeps r23 F14
    replace G:=G.trans F14
    clear r23 F14
    go_wp2_with (at_builtin;refine wpList_appSq fI_lays rfl _ _ 25 rfl Tryz.underlying25 intI rfl (B:=wr.heap.size) _ T3 rfl r24 _ [] rfl (HS2.out.up G) (by have:=HT.out;rw [← hT3];simp;omega) (by decide) G.size ?_;intro a25 c25 w25 r25 f25;generalize hT4:T3++([]:List Int)=T4 at r25 ⊢)
    replace G:=G.own f25 (row_base r24)
    clear f25 r24
    refine nx_normal ⟨G,?_⟩
    refine envL_tail (k:=18) rfl (by kernel_rfl) (fun w15 F15=>?_)
    have r26:=row_keeps r25 F15
    replace G:=G.trans F15
    clear r25 F15
    have h26:=h.up G
    have z26:=h26.frozen
    obtain ⟨-,-,-,-,-,-,-,-,c8⟩:=nd_cells h26
    go_wp2_with fail
    go_end0
    have hlt26:b<wr.heap.size:=h.lt
    have e26:ins x.l v=T4:=by rw [HT.out.2.2,hT3,hT4]
    rw [← e26] at r26 ⊢
    refine ⟨rfl,⟨_,Ob.set h26 (i:=8) _,(Sq.own r26).kept (Fr.setCell (S:=[b]) _ (by simp)) (fun g hg hi=>?_),.inr (row_base r26)⟩,(G.mono).trans (Fr.setCell _ (by simp))⟩
    have:=row_base r26 g hg
    simp at hi
    omega
end Go.Proofs.YtilipdnchflkhaaGreatDoor.Mx
