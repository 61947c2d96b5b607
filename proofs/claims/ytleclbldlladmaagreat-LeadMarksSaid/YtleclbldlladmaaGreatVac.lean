/- Parts. -/
import Derived.Test.YtleclbldlladmaaGreatVaa
import Derived.Test.YtleclbldlladmaaGreatVab
import Derived.ChangeKeysEq
import Derived.LaidEql
import Derived.Lib.IfaceEq
import Derived.RowKitTokens
import Derived.Stop.Asserts
import Derived.Stop.IfaceNil
import Derived.WalkSpells
set_option linter.unusedVariables false
set_option linter.unusedSimpArgs false
set_option maxRecDepth 100000
set_option maxHeartbeats 12800000
namespace Go.Proofs.YtleclbldlladmaaGreat.Er
open Go.RowKit Go.Extern.Stop Go.Stop Go.Extern Ar
theorem isE:Tryz.prog.isIface 49=true:=by kernel_rfl
theorem qbe (w : World) : ((Extern.ReflectliteType.method fun t => do Extern.Rtype.noPackHeld "Comparable" t; (fun a => Value.bool a.comparable) <$> typeInfo t) #[.agg #[.pointer (some ⟨0, 99, none⟩)]]).run Tryz.prog w = .ok (.bool true) w := by kernel_rfl
end Go.Proofs.YtleclbldlladmaaGreat.Er
namespace Go.Proofs.YtleclbldlladmaaGreat.Vw
open Go.RowKit Ar Mx
structure Ce where
 s:Int
 k:Int
 d:Int
deriving DecidableEq
def fC (x:Ce):List Value:=[.int .i64 x.s,.int .i64 x.k,.int .i64 x.d]
theorem Ze:Lays fC 3:=⟨fun _=>rfl,fun x u hu=>by simp [fC] at hu;rcases hu with rfl | rfl | rfl <;> rfl,by decide⟩
theorem ceI:(Tryz.prog.info? 195).map (fun i=>(i.zero,i.size,i.bytes))=some (some (.agg #[.int .i64 0,.int .i64 0,.int .i64 0]),3,24):=by kernel_rfl
structure Hd where
 at_:Int
 mn:Int
 ct:Int
 nx:Int
 ld:Int
 mt:Int
 rp:Int
 st:Int
deriving DecidableEq
def verV (s:Int):Int:=if s<3 then -1 else wrap64 (s - 3)
def qcm (c:Ce):Option It:=if 3<=c.s then some ⟨c.k,verV c.s,c.d⟩ else none
def Wu (cs:List Ce):List It:=cs.filterMap qcm
theorem qa8 (x y:Ce) (W:World):(binOp .neq 195 (.agg #[.int .i64 x.s,.int .i64 x.k,.int .i64 x.d]) (.agg #[.int .i64 y.s,.int .i64 y.k,.int .i64 y.d])).run Tryz.prog W = .ok (.bool (decide (x≠y))) W:=by
 obtain ⟨k,i,o⟩:=x;obtain ⟨k',i',o'⟩:=y;have u3:=Tryz.underlying3;have a3:(isAgg 3).run Tryz.prog W = .ok false W:=by kernel_rfl
 have hS:Tryz.prog.underlying 195=some (.struct (Tryz.prog.fieldsOf 195)):=by kernel_rfl
 have hp:Tryz.prog.stoodInHeld 195=false:=by kernel_rfl
 rw [run_neq_struct,show (10000:Nat)=9999+1 from rfl,run_equalIn_agg W 9999 195 _ _ hS hp];simp only [Program.fieldsOf,Tryz.underlying195];go_simp;by_cases h1:k=k' <;> by_cases h2:i=i' <;> by_cases h3:o=o' <;> simp [h1,h2,h3]
theorem q2k {w:World} {a:Option Addr} {n cap i:Nat} {xs:List Ce} {x:Ce} (h:Sq fC w (.slice a n cap) xs) (hi:xs[i]? = some x) :
  ∃ g off,a=some ⟨g,off,none⟩/\w.cell? ⟨g,off+i * 3,none⟩=some (.int .i64 x.s)/\w.cell? ⟨g,off+i * 3+1,none⟩=some (.int .i64 x.k)/\w.cell? ⟨g,off+i * 3+2,none⟩=some (.int .i64 x.d):=by
 obtain ⟨-,g,off,rfl,hc⟩:=Sq.cell Ze h hi;exact Hp
end Go.Proofs.YtleclbldlladmaaGreat.Vw
namespace Go.Proofs.YtleclbldlladmaaGreat.Mx
open Go.RowKit Ar Vw
structure Chs where
 h:Hd
 s:Sv
def fH (x:Chs):List Value:=[.int .i64 x.h.at_,.int .i64 x.h.mn,.int .i64 x.h.ct,.int .i64 x.h.nx,.int .i64 x.h.ld,.int .i64 x.h.mt,.int .i64 x.h.rp,.int .i64 x.h.st,x.s.v]
theorem Qg:Lays fH 9:=⟨fun _=>rfl,fun x u hu=>by simp [fH] at hu;rcases hu with rfl | rfl | rfl | rfl | rfl | rfl | rfl | rfl | rfl <;> rfl,by decide⟩
theorem chI:(Tryz.prog.info? 193).map (fun i=>(i.zero,i.size,i.bytes))=some (some (.agg #[.int .i64 0,.int .i64 0,.int .i64 0,.int .i64 0,.int .i64 0,.int .i64 0,.int .i64 0,.int .i64 0,.slice none 0 0]),9,88):=by kernel_rfl
def ceO (o:Option It):Ce:=match o with
 | some x=>⟨vu x.v,x.k,x.d⟩
 | none=>⟨0,0,0⟩
def Ym (cap:Nat) (g:List It):List Ce:=(List.range cap).map fun j=>ceO g[j]?
theorem Qw (cap:Nat) (g:List It):(Ym cap g).length=cap:=by simp [Ym]
theorem q65 {cap:Nat} {g:List It} {j:Nat} (h:j<cap):(Ym cap g)[j]? = some (ceO g[j]?):=by simp [Ym,h]
def qdq (n:Nk):Hd:=⟨n.at_,n.mn,n.ct,n.nx,0,0,0,0⟩
def q40 (w:World) (xs:List Chs) (ns:List Nk) (cap:Nat):Prop:=xs.length=ns.length/\∀ (i:Nat) (x:Chs) (n:Nk),xs[i]? = some x->ns[i]? = some n->x.h=qdq n/\Sq fC w x.s.v (Ym cap n.its)
theorem q40.up {w w':World} {xs:List Chs} {ns:List Nk} {cap:Nat} (h:q40 w xs ns cap) (f:Fr [] w w'):q40 w' xs ns cap :=
 ⟨h.1,fun i x n e1 e2=>⟨(h.2 i x n e1 e2).1,(h.2 i x n e1 e2).2.up f⟩⟩
def zCh:Chs:=⟨⟨0,0,0,0,0,0,0,0⟩,⟨none,0,0⟩⟩
def zCe:Ce:=⟨0,0,0⟩
theorem qak {w:World} {b:Nat} {T:TypeId} {xs:List Chs} (o:Ob w b T (xs.flatMap fH).toArray) {i:Nat} {x:Chs} (hi:xs[i]? = some x) (y:Chs) :
  Ob (((((((((w.setCell ⟨b,i * 9,none⟩ (.int .i64 y.h.at_)).setCell ⟨b,i * 9+1,none⟩ (.int .i64 y.h.mn)).setCell ⟨b,i * 9+2,none⟩ (.int .i64 y.h.ct)).setCell ⟨b,i * 9+3,none⟩ (.int .i64 y.h.nx)).setCell ⟨b,i * 9+4,none⟩ (.int .i64 y.h.ld)).setCell ⟨b,i * 9+5,none⟩ (.int .i64 y.h.mt)).setCell ⟨b,i * 9+6,none⟩ (.int .i64 y.h.rp)).setCell ⟨b,i * 9+7,none⟩ (.int .i64 y.h.st)).setCell ⟨b,i * 9+8,none⟩ y.s.v) b T ((xs.set i y).flatMap fH).toArray:=by
 obtain ⟨⟨a0,a1,a2,a3,a4,a5,a6,a7⟩,s⟩:=x;obtain ⟨⟨b0,b1,b2,b3,b4,b5,b6,b7⟩,r⟩:=y;have hl:=(List.getElem?_eq_some_iff.1 hi).1;have nx:∀ z:Chs,(xs.set i z)[i]? = some z:=fun z=>by rw [List.getElem?_set_self hl]
 have s0:=o.seg Qg (i:=i) (j:=0) (x':=⟨⟨b0,a1,a2,a3,a4,a5,a6,a7⟩,s⟩) (u:=.int .i64 b0) hi Lg rfl;have s1:=s0.seg Qg (i:=i) (j:=1) (x':=⟨⟨b0,b1,a2,a3,a4,a5,a6,a7⟩,s⟩) (u:=.int .i64 b1) (nx _) Lg rfl;rw [List.set_set] at s1;have s2:=s1.seg Qg (i:=i) (j:=2) (x':=⟨⟨b0,b1,b2,a3,a4,a5,a6,a7⟩,s⟩) (u:=.int .i64 b2) (nx _) Lg rfl;rw [List.set_set] at s2;have s3:=s2.seg Qg (i:=i) (j:=3) (x':=⟨⟨b0,b1,b2,b3,a4,a5,a6,a7⟩,s⟩) (u:=.int .i64 b3) (nx _) Lg rfl;rw [List.set_set] at s3;have s4:=s3.seg Qg (i:=i) (j:=4) (x':=⟨⟨b0,b1,b2,b3,b4,a5,a6,a7⟩,s⟩) (u:=.int .i64 b4) (nx _) Lg rfl;rw [List.set_set] at s4;have s5:=s4.seg Qg (i:=i) (j:=5) (x':=⟨⟨b0,b1,b2,b3,b4,b5,a6,a7⟩,s⟩) (u:=.int .i64 b5) (nx _) Lg rfl;rw [List.set_set] at s5;have s6:=s5.seg Qg (i:=i) (j:=6) (x':=⟨⟨b0,b1,b2,b3,b4,b5,b6,a7⟩,s⟩) (u:=.int .i64 b6) (nx _) Lg rfl;rw [List.set_set] at s6;have s7:=s6.seg Qg (i:=i) (j:=7) (x':=⟨⟨b0,b1,b2,b3,b4,b5,b6,b7⟩,s⟩) (u:=.int .i64 b7) (nx _) Lg rfl;rw [List.set_set] at s7;have s8:=s7.seg Qg (i:=i) (j:=8) (x':=⟨⟨b0,b1,b2,b3,b4,b5,b6,b7⟩,r⟩) (u:=r.v) (nx _) Lg rfl;rw [List.set_set] at s8;exact s8
theorem qbo {w:World} {b:Nat} {T:TypeId} {xs:List Ce} (o:Ob w b T (xs.flatMap fC).toArray) {i:Nat} {x:Ce} (hi:xs[i]? = some x) (y:Ce) :
  Ob (((w.setCell ⟨b,i * 3,none⟩ (.int .i64 y.s)).setCell ⟨b,i * 3+1,none⟩ (.int .i64 y.k)).setCell ⟨b,i * 3+2,none⟩ (.int .i64 y.d)) b T ((xs.set i y).flatMap fC).toArray:=by
 obtain ⟨a0,a1,a2⟩:=x;obtain ⟨b0,b1,b2⟩:=y;have hl:=(List.getElem?_eq_some_iff.1 hi).1;have nx:∀ z:Ce,(xs.set i z)[i]? = some z:=fun z=>by rw [List.getElem?_set_self hl]
 have s0:=o.seg Ze (i:=i) (j:=0) (x':=⟨b0,a1,a2⟩) (u:=.int .i64 b0) hi Lg rfl;have s1:=s0.seg Ze (i:=i) (j:=1) (x':=⟨b0,b1,a2⟩) (u:=.int .i64 b1) (nx _) Lg rfl;rw [List.set_set] at s1;have s2:=s1.seg Ze (i:=i) (j:=2) (x':=⟨b0,b1,b2⟩) (u:=.int .i64 b2) (nx _) Lg rfl;rw [List.set_set] at s2;exact s2
theorem fr9 {w:World} {b:Nat} (i0 i1 i2 i3 i4 i5 i6 i7 i8:Nat) (v0 v1 v2 v3 v4 v5 v6 v7 v8:Value):Fr [b] w (((((((((w.setCell ⟨b,i0,none⟩ v0).setCell ⟨b,i1,none⟩ v1).setCell ⟨b,i2,none⟩ v2).setCell ⟨b,i3,none⟩ v3).setCell ⟨b,i4,none⟩ v4).setCell ⟨b,i5,none⟩ v5).setCell ⟨b,i6,none⟩ v6).setCell ⟨b,i7,none⟩ v7).setCell ⟨b,i8,none⟩ v8):=by have hb:b∈[b]:=List.mem_singleton.2 rfl;exact ((((((((Fr.setCell v0 hb).setCell' v1 hb).setCell' v2 hb).setCell' v3 hb).setCell' v4 hb).setCell' v5 hb).setCell' v6 hb).setCell' v7 hb).setCell' v8 hb
theorem fr3c {w:World} {b:Nat} (i0 i1 i2:Nat) (v0 v1 v2:Value):Fr [b] w (((w.setCell ⟨b,i0,none⟩ v0).setCell ⟨b,i1,none⟩ v1).setCell ⟨b,i2,none⟩ v2):=by have hb:b∈[b]:=List.mem_singleton.2 rfl;exact ((Fr.setCell v0 hb).setCell' v1 hb).setCell' v2 hb
theorem meas {n j:Nat} {z:Int} (hz:z=(j:Int)+1) (h:n - (j+1)<n - j):n - z.toNat<n - ((j:Int)).toNat:=by subst hz;rw [show ((j:Int)+1).toNat=j+1 by omega,Int.toNat_natCast];exact h
end Go.Proofs.YtleclbldlladmaaGreat.Mx
namespace Go.Proofs.YtleclbldlladmaaGreat.Mx
open Go.RowKit Ar Ref
theorem q58 (cs:List It) {j:Nat} {u:Value} (h:(cs.flatMap fT)[j]? = some u):∃ c,cs[j / 3]? = some c/\(fT c)[j % 3]? = some u:=by
 have hj:=(List.getElem?_eq_some_iff.1 h).1;rw [zh.flat] at hj;have hi:j / 3<cs.length:=by omega
 refine ⟨cs[j / 3],List.getElem?_eq_getElem hi,?_⟩;have e:=zh.at (xs:=cs) (i:=j / 3) (j:=j % 3) (List.getElem?_eq_getElem hi) Lb;rw [show j / 3 * 3+j % 3=j by omega] at e;rw [<- e];exact h
theorem qap {w:World} {g n cap m:Nat} {cs:List It} {x:It} {cur:Array Value} {T:TypeId} (h:Sq fT w (.slice (some ⟨g,0,none⟩) n cap) cs) (hh:w.heap[g]? = some (.cells cur T (0,0))) (hx:cs[m]? = some x) (y:It) :
  Sq fT (((w.setCell ⟨g,m * 3,none⟩ (.int .i64 y.k)).setCell ⟨g,m * 3+1,none⟩ (.int .i64 y.v)).setCell ⟨g,m * 3+2,none⟩ (.int .i64 y.d)) (.slice (some ⟨g,0,none⟩) n cap) (cs.set m y):=by
 obtain ⟨-,g',off',e',d2⟩:=Sq.cell zh h hx;obtain ⟨a',cap',e,h1,h2,h3⟩:=h;simp only [Value.slice.injEq] at e;obtain ⟨rfl,rfl,rfl⟩:=e;have hm:=(List.getElem?_eq_some_iff.1 hx).1;simp only [Option.some.injEq,Addr.mk.injEq] at e';obtain ⟨rfl,rfl,-⟩:=e';have hc2:=d2 2 (.int .i64 x.d) rfl;rw [cell_of_row _ _ _ _ _ _ hh,Nat.zero_add] at hc2;have hlt:m * 3+2<cur.size:=(Array.getElem?_eq_some_iff.1 hc2).1;have hh':=heap_setCell_same _ g (m * 3+2) _ T (.int .i64 y.d) (heap_setCell_same _ g (m * 3+1) _ T (.int .i64 y.v) (heap_setCell_same w g (m * 3) cur T (.int .i64 y.k) hh));refine ⟨_,cap,by simp,by simpa using h1,h2,.inr ⟨g,0,rfl,(Array.getElem?_eq_some_iff.1 hh').1,fun j u hu=>?_⟩⟩;rw [cell_of_row _ _ _ _ _ _ hh',Nat.zero_add];obtain ⟨c,hc,hu⟩:=q58 _ hu;rcases h3 with h0 | ⟨g2,o2,e2,-,hall⟩
 ·omega
 simp only [Option.some.injEq,Addr.mk.injEq] at e2;obtain ⟨rfl,rfl,-⟩:=e2;have ej:j=j / 3 * 3+j % 3:=by omega
 have h3:j % 3<3:=Nat.mod_lt _ Lg;by_cases hjm:j / 3=m
 ·rw [hjm,List.getElem?_set_self hm] at hc;obtain rfl:=qi hc;have h4:j % 3=0\/j % 3=1\/j % 3=2:=by omega
  rw [hjm] at ej;rcases h4 with h4 | h4 | h4
  ·rw [h4] at hu ej;rw [Nat.add_zero] at ej;rw [Array.getElem?_setIfInBounds_ne Lb,Array.getElem?_setIfInBounds_ne Lb,ej,Array.getElem?_setIfInBounds_self_of_lt Lb];exact hu
  ·rw [h4] at hu ej;rw [Array.getElem?_setIfInBounds_ne Lb,ej,Array.getElem?_setIfInBounds_self_of_lt Ll];exact hu
  ·rw [h4] at hu ej;rw [ej,Array.getElem?_setIfInBounds_self_of_lt Ll];exact hu
 ·rw [List.getElem?_set_ne (fun e=>hjm e.symm)] at hc;rw [Array.getElem?_setIfInBounds_ne Lb,Array.getElem?_setIfInBounds_ne Lb,Array.getElem?_setIfInBounds_ne Lb];have:=hall j u (by rw [ej];exact (zh.at hc h3).trans hu);rwa [cell_of_row _ _ _ _ _ _ hh,Nat.zero_add] at this
theorem Uf {l:List It} {key:Int} {i:Nat} (h:Ve l key=some i):i<l.length:=by unfold Ve at h;rw [List.findIdx?_eq_some_iff_getElem] at h;exact h.1
theorem q9g (x:Lok) (it:It) (i b:Nat) (w:World) (hN:Ve x.l it.k=some i) (hl:x.l.length<=1000) (h:vh w b x) (hs:Sq fT w x.lv x.l) (hb:b∉x.lv.ownBlock.toList) :
  Calls Tryz.prog 121 #[.pointer (some ⟨b,0,none⟩),.agg #[.int .i64 it.k,.int .i64 it.v,.int .i64 it.d]] w fun e w'=>e = .returned (.tuple #[])/\(∃ lv',vh w' b { x with l:=x.l.set i it,lv:=lv' } /\ Sq fT w' lv' (x.l.set i it)/\∀ g,g∈lv'.ownBlock.toList->w.heap.size<=g)/\Fr [b] w w':=by
 obtain ⟨a,cap,hlv,hcap,hmax,-⟩:=id hs;have hil:=Uf hN;have F0:=(Fr.refl [] w).alloc (.cells #[.int .i64 it.k,.int .i64 it.v,.int .i64 it.d] 148);have ob:=Ob.new w 148 #[.int .i64 it.k,.int .i64 it.v,.int .i64 it.d];have hi:=Uw x it.k b _ hl (h.up F0) (hs.up F0);rw [show J8 x.l it.k=(i:Int) by unfold J8;rw [hN]] at hi;have HI:=q9 hi;clear hi;have hbw:=h.lt;go_enter Tryz.func121,Tryz.ntmps121;go_wp2_with fail;refine HI.out.mono ?_;rintro e _ ⟨rfl,rfl⟩;clear HI;replace h:=h.up F0;replace hs:=hs.up F0;have hwl:w.heap.size<(w.alloc (.cells #[.int .i64 it.k,.int .i64 it.v,.int .i64 it.d] 148)).heap.size:=by simp
 generalize (w.alloc (.cells #[.int .i64 it.k,.int .i64 it.v,.int .i64 it.d] 148))=w1 at *;have hc14:=(qx h).2.2.2.2.2.2.2.2.2.2.2.2.2.2;rw [hlv] at hs hb hc14;have gi:decide ((i:Int)≥0)=true:=by simp
 go_wp2_with (at_builtin;refine qq zh rfl _ _ 129 rfl Tryz.underlying129 itI rfl (B:=w1.heap.size) (.slice none 0 0) [] rfl ⟨rfl,.inl ⟨rfl,rfl⟩⟩ _ x.l rfl hs (by simp only [List.length_nil];omega) Lg (Nat.le_refl _) ?_;intro a7 c7 w7 r7 F7;rw [List.nil_append] at r7;have h7:=Ob.kept h F7 Lp;have ob7:=Ob.kept ob F7 Lp;have z:=h7.frozen;have c14:=(qx h7).2.2.2.2.2.2.2.2.2.2.2.2.2.2);have hn7:=je r7 h7 Lg;have F8:Fr [b] w7 (w7.setCell ⟨b,14,none⟩ (.slice a7 x.l.length c7)):=Fr.setCell (b:=b) (i:=14) _ Lc;have h8:vh (w7.setCell ⟨b,14,none⟩ (.slice a7 x.l.length c7)) b { x with lv:=(.slice a7 x.l.length c7) }:=Ob.set h7 (i:=14) (.slice a7 x.l.length c7);have r8:=Q4 r7 F8 (fun g hg hi=>by rw [List.mem_singleton.1 hi] at hg;exact hn7 (by simp [hg]));have hbne:w.heap.size≠b:=by omega
 have ob8:=ob7.kept F8 (by simpa using hbne);have G8:Fr [b] w (w7.setCell ⟨b,14,none⟩ (.slice a7 x.l.length c7)):=((F0.mono).trans (F7.mono Lp)).trans F8;generalize (w7.setCell ⟨b,14,none⟩ (.slice a7 x.l.length c7))=w8 at *;have sr8:=Sq.own r8;have hrb:=z8 r8;rcases r8.2 with ⟨e1,-⟩ | ⟨g,cap2,cur,e1,hg1,hh,hc1,hc2,hsz,-⟩
 ·simp only [Value.slice.injEq] at e1;omega
 simp only [Value.slice.injEq] at e1;obtain ⟨rfl,-,rfl⟩:=e1;have hgb:g≠b:=by intro e;exact hn7 (by simp [Value.ownBlock,e])
 have hx:x.l[i]? = some x.l[i]:=List.getElem?_eq_getElem hil;have HX:=q9 hx;clear h7 ob7 z c14 hc14 F7 r7 hn7 F8 r8 hx hs ob h gi;refine qp Le ?_;refine za [] w8 #[true,true,true,true,true,true,false,false] 6 2 rfl ?_;refine lpq [true,true,true,true,true,true,false,false] 0 ((Fr.refl _ w8).drew) ?_;apply qg;refine ⟨fun wf Ff=>?_,?_⟩
 ·have c14:=(qx (h8.up Ff)).2.2.2.2.2.2.2.2.2.2.2.2.2.2;have k14:=qb c14;have q0:=qb ((ob8.up Ff).cell (i:=0) rfl);have q1:=qb ((ob8.up Ff).cell (i:=1) rfl);have q2:=qb ((ob8.up Ff).cell (i:=2) rfl);clear c14;exact Ab
 refine qy (k:=6) rfl Le (fun w9 F9=>?_);have E9:=(Fr.refl [] w8).drew.trans F9;have h9:=h8.up E9;have hh9:=E9.heap hh Lc;have sr9:=sr8.up E9;have G9:=G8.then E9;clear F9 E9 h8 hh sr8 G8 ob8;have zg:∀ j,w9.frozen? ⟨g,j,none⟩=false:=fun j=>frozen_of_row _ _ _ _ _ hh9
 obtain ⟨g',off',e',d0,d1,d2⟩:=xk sr9 HX.out;simp only [Option.some.injEq,Addr.mk.injEq] at e';obtain ⟨rfl,rfl,-⟩:=e';rw [Nat.zero_add] at d0 d1 d2;have hS:=qap sr9 hh9 HX.out it;have FS:Fr [g] w9 (((w9.setCell ⟨g,i * 3,none⟩ (.int .i64 it.k)).setCell ⟨g,i * 3+1,none⟩ (.int .i64 it.v)).setCell ⟨g,i * 3+2,none⟩ (.int .i64 it.d)):=Fr.setCell' (Fr.setCell' (Fr.setCell (b:=g) (i:=i * 3) _ Lc) (b:=g) (i:=i * 3+1) _ Lc) (b:=g) (i:=i * 3+2) _ Lc;have hSG:=q9 (qc hS FS);clear hS FS;go_wp2_with fail;refine bodyPost_ret (v:=.tuple #[]) (by simp [results,Tryz.results121,go_sem]) rfl ?_;refine ⟨rfl,⟨_,h9.kept hSG.out.2 (by simpa using hgb.symm),hSG.out.1,fun k hk=>qh F0.size (hrb k hk)⟩,?_⟩;exact ⟨hSG.out.2.os.trans G9.os,hSG.out.2.tape.trans G9.tape,hSG.out.2.output.trans G9.output,qh G9.size hSG.out.2.size,fun k hk hn=>(hSG.out.2.block k (qj hk G9.size) Ll).trans (G9.block k hk hn)⟩
theorem q1v (x:Lok) (it:It) (b:Nat) (w:World) (hl:x.l.length<=1000) (h:vh w b x) (hs:Sq fT w x.lv x.l) (hb:b∉x.lv.ownBlock.toList) :
  Calls Tryz.prog 121 #[.pointer (some ⟨b,0,none⟩),.agg #[.int .i64 it.k,.int .i64 it.v,.int .i64 it.d]] w fun e w'=>e = .returned (.tuple #[])/\(∃ lv',vh w' b { x with l:=q15 x.l it,lv:=lv' } /\ Sq fT w' lv' (q15 x.l it)/\∀ g,g∈lv'.ownBlock.toList->w.heap.size<=g)/\Fr [b] w w':=by
 cases hN:Ve x.l it.k with
 | none=>rw [q6c hN];exact q8j x it b w hN hl h hs hb
 | some i=>rw [q54 hN];exact q9g x it i b w hN hl h hs hb
def Lok.skips (x:Lok):Bool:=decide (x.most<Vi x.s) || (match Ve x.l x.k with | some i=>decide (Vi x.s<(x.l.getD i ⟨0,0,0⟩).v) | none=>false)
def Lok.seven (x:Lok):Lok:=if x.skips=true then ({ x with line:=7 }:Lok).on else { x with line:=7 }
theorem Wy (x:Lok) (hi:-1<=x.i/\x.i<=100) (b:Nat) (w:World) (hl:x.l.length<=1000) (h:vh w b x) (hs:Sq fT w x.lv x.l) (hb:b∉x.lv.ownBlock.toList) :
  Calls Tryz.prog 120 #[.pointer (some ⟨b,0,none⟩)] w fun e w'=>e = .returned (.tuple #[])/\vh w' b x.seven/\Fr [b] w w':=by
 generalize hy:x.seven=y;have HY:=q9 hy;clear hy;obtain ⟨a,cap,hlv,hcap,hmax,-⟩:=id hs;obtain ⟨c0,c1,c2,c3,c4,c5,c6,c7,c8,c9,c10,c11,c12,c13,c14⟩:=qx h;have z:=h.frozen;have hit:=Uw x x.k b w hl h hs;rw [hlv] at c14;go_enter Tryz.func120,Tryz.ntmps120;go_wp2_with fail;refine (Xz _ _).mono ?_;rintro e _ ⟨rfl,rfl⟩;generalize hver:Vi x.s=ver at *;go_wp2_with fail;refine hit.mono ?_;rintro e _ ⟨rfl,rfl⟩;clear hit;have h7:vh (w.setCell ⟨b,8,none⟩ (.int .i64 7)) b { x with line:=7 }:=Ob.set h (i:=8) (.int .i64 7);have F7:Fr [b] w (w.setCell ⟨b,8,none⟩ (.int .i64 7)):=Fr.setCell (b:=b) (i:=8) _ Lc;have hnx:=Qr { x with line:=7 } hi b _ h7;have HX:=q9 hnx;clear hnx;by_cases e1:x.most<ver
 ·have hn:y=({ x with line:=7 }:Lok).on:=by rw [<- HY.out];unfold Lok.seven Lok.skips;rw [hver];simp [e1]
  subst hn;have g1:decide (ver>x.most)=true:=by simpa using e1
  have HV:=q9 hver;clear hver e1 h hs h7;generalize J8 x.l x.k=ii at *;exact Dv
 ·have g1:decide (ver>x.most)=false:=by simpa using e1
  cases hN:Ve x.l x.k with
  | none =>
   have hn:y = { x with line:=7 }:=by rw [<- HY.out];unfold Lok.seven Lok.skips;rw [hver,hN];simp [e1]
   subst hn;rw [show J8 x.l x.k = -1 by unfold J8;rw [hN]];have HV:=q9 (qc hver hN);clear hver hN e1 h hs;exact Ht
  | some i =>
   have hil:=Uf hN;have hgx:x.l[i]? = some x.l[i]:=List.getElem?_eq_getElem hil;have hgd:x.l.getD i ⟨0,0,0⟩=x.l[i]:=by rw [List.getD_eq_getElem?_getD,hgx];rfl
   rw [hlv] at hs;obtain ⟨g,off,rfl,d0,d1,d2⟩:=xk hs hgx;rw [show J8 x.l x.k=(i:Int) by unfold J8;rw [hN]];generalize hxi:x.l[i]=xi at *;have gi:decide ((i:Int)≥0)=true:=by simp
   have hgb:g≠b:=by intro e;rw [hlv] at hb;exact hb (by simp [Value.ownBlock,e])
   by_cases e2:ver<xi.v
   ·have hn:y=({ x with line:=7 }:Lok).on:=by rw [<- HY.out];unfold Lok.seven Lok.skips;rw [hver,hN];simp only [hgd];simp [e2]
    subst hn;have g2:decide (ver<xi.v)=true:=by simpa using e2
    have HV:=q9 (qc hver (qc hN (qc hgx hgd)));have HXI:=q9 hxi;clear hver hN hgx hgd hxi e1 e2 h hs h7;exact Dv
   ·have hn:y = { x with line:=7 }:=by rw [<- HY.out];unfold Lok.seven Lok.skips;rw [hver,hN];simp only [hgd];simp [e1,e2]
    subst hn;have g2:decide (ver<xi.v)=false:=by simpa using e2
    have HV:=q9 (qc hver (qc hN (qc hgx hgd)));have HXI:=q9 hxi;clear hver hN hgx hgd hxi e1 e2 h hs;exact Ht
end Go.Proofs.YtleclbldlladmaaGreat.Mx
namespace Go.Proofs.YtleclbldlladmaaGreat.Mp
open Go.RowKit Ar
structure An where
 code:Int
 found:Bool
 val:Int
 writer:Int
 version:Int
 pairs:List (Int×Int)
def Yw (a:An) (pv:Value):Value:=.agg #[.int .i64 a.code,.bool a.found,.int .i64 a.val,.int .i64 a.writer,.int .i64 a.version,pv]
end Go.Proofs.YtleclbldlladmaaGreat.Mp
namespace Go.Proofs.YtleclbldlladmaaGreat.Al
open Go.RowKit Ar
theorem accGuard:Tryz.prog.eqGuardType Tryz.prog.depth 64=false:=by kernel_rfl
theorem acc_neq (k i o n k' i' o' n':Int) (b b':Bool) (W:World):(binOp .neq 64 (.agg #[.int .i64 k,.int .i64 i,.int .i64 o,.int .i64 n,.bool b]) (.agg #[.int .i64 k',.int .i64 i',.int .i64 o',.int .i64 n',.bool b'])).run Tryz.prog W = .ok (.bool (!(k == k' && i == i' && o == o' && n == n' && b == b'))) W:=by
 have u3:=Tryz.underlying3;have u4:=Tryz.underlying4;have a3:(isAgg 3).run Tryz.prog W = .ok false W:=by kernel_rfl
 have a4:(isAgg 4).run Tryz.prog W = .ok false W:=by kernel_rfl
 have hS:Tryz.prog.underlying 64=some (.struct (Tryz.prog.fieldsOf 64)):=by kernel_rfl
 have hp:Tryz.prog.stoodInHeld 64=false:=by kernel_rfl
 rw [run_neq_struct,show (10000:Nat)=9999+1 from rfl,run_equalIn_agg W 9999 64 _ _ hS hp];simp only [Program.fieldsOf,Tryz.underlying64];go_simp;cases h1:k == k' <;> cases h2:i == i' <;> cases h3:o == o' <;> cases h4:n == n' <;> cases h5:b == b' <;> simp_all
def AlikeAt (w:World) (p q p2 q2:Nat) (s:St) (v:Value) (wr:World):Prop:=∃ k:Nat,k<=s.l.length/\v = .int .i64 k/\Ar wr p q s/\Ref.Rar wr p2 q2 s/\Fr [] w wr
end Go.Proofs.YtleclbldlladmaaGreat.Al
