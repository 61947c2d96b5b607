/- Parts. -/
import Derived.Test.YtppajakfaomkaaaGreatDoorYam
import Derived.Test.YtppajakfaomkaaaGreatDoorYan
import Derived.Test.YtppajakfaomkaaaGreatDoorYao
set_option linter.unusedVariables false
set_option linter.unusedSimpArgs false
set_option maxRecDepth 100000
set_option maxHeartbeats 12800000
namespace Go.Proofs.YtppajakfaomkaaaGreatDoor.Mx
open Go.RowKit Ar Vw
structure Chs where
 h:Hd
 s:Sv
def fH (x:Chs):List Value:=[.int .i64 x.h.at_,.int .i64 x.h.mn,.int .i64 x.h.ct,.int .i64 x.h.nx,.int .i64 x.h.ld,.int .i64 x.h.mt,.int .i64 x.h.rp,.int .i64 x.h.st,x.s.v]
theorem Qa:Lays fH 9:=⟨fun _=>rfl,fun x u hu=>by simp [fH] at hu;rcases hu with rfl | rfl | rfl | rfl | rfl | rfl | rfl | rfl | rfl <;> rfl,by decide⟩
theorem chI:(Tryz.prog.info? 130).map (fun i=>(i.zero,i.size,i.bytes))=some (some (.agg #[.int .i64 0,.int .i64 0,.int .i64 0,.int .i64 0,.int .i64 0,.int .i64 0,.int .i64 0,.int .i64 0,.slice none 0 0]),9,88):=by kernel_rfl
def ceO (o:Option It):Ce:=match o with
 | some x=>⟨vq x.v,x.k,x.d⟩
 | none=>⟨0,0,0⟩
def Yh (cap:Nat) (g:List It):List Ce:=(List.range cap).map fun j=>ceO g[j]?
theorem Qi (cap:Nat) (g:List It):(Yh cap g).length=cap:=by simp [Yh]
theorem q68 {cap:Nat} {g:List It} {j:Nat} (h:j<cap):(Yh cap g)[j]? = some (ceO g[j]?):=by simp [Yh,h]
def qdf (n:Nk):Hd:=⟨n.at_,n.mn,n.ct,n.nx,0,0,0,0⟩
def q2q (w:World) (xs:List Chs) (ns:List Nk) (cap:Nat):Prop:=xs.length=ns.length/\∀ (i:Nat) (x:Chs) (n:Nk),xs[i]? = some x->ns[i]? = some n->x.h=qdf n/\Sq fC w x.s.v (Yh cap n.its)
theorem q2q.up {w w':World} {xs:List Chs} {ns:List Nk} {cap:Nat} (h:q2q w xs ns cap) (f:Fr [] w w'):q2q w' xs ns cap :=
 ⟨h.1,fun i x n e1 e2=>⟨(h.2 i x n e1 e2).1,(h.2 i x n e1 e2).2.up f⟩⟩
def zCh:Chs:=⟨⟨0,0,0,0,0,0,0,0⟩,⟨none,0,0⟩⟩
def zCe:Ce:=⟨0,0,0⟩
theorem qa1 {w:World} {b:Nat} {T:TypeId} {xs:List Chs} (o:Ob w b T (xs.flatMap fH).toArray) {i:Nat} {x:Chs} (hi:xs[i]? = some x) (y:Chs) :
  Ob (((((((((w.setCell ⟨b,i * 9,none⟩ (.int .i64 y.h.at_)).setCell ⟨b,i * 9+1,none⟩ (.int .i64 y.h.mn)).setCell ⟨b,i * 9+2,none⟩ (.int .i64 y.h.ct)).setCell ⟨b,i * 9+3,none⟩ (.int .i64 y.h.nx)).setCell ⟨b,i * 9+4,none⟩ (.int .i64 y.h.ld)).setCell ⟨b,i * 9+5,none⟩ (.int .i64 y.h.mt)).setCell ⟨b,i * 9+6,none⟩ (.int .i64 y.h.rp)).setCell ⟨b,i * 9+7,none⟩ (.int .i64 y.h.st)).setCell ⟨b,i * 9+8,none⟩ y.s.v) b T ((xs.set i y).flatMap fH).toArray:=by
 obtain ⟨⟨a0,a1,a2,a3,a4,a5,a6,a7⟩,s⟩:=x
 obtain ⟨⟨b0,b1,b2,b3,b4,b5,b6,b7⟩,r⟩:=y
 have hl:=(List.getElem?_eq_some_iff.1 hi).1
 have nx:∀ z:Chs,(xs.set i z)[i]? = some z:=fun z=>by rw [List.getElem?_set_self hl]
 have s0:=o.seg Qa (i:=i) (j:=0) (x':=⟨⟨b0,a1,a2,a3,a4,a5,a6,a7⟩,s⟩) (u:=.int .i64 b0) hi (by decide) rfl
 have s1:=s0.seg Qa (i:=i) (j:=1) (x':=⟨⟨b0,b1,a2,a3,a4,a5,a6,a7⟩,s⟩) (u:=.int .i64 b1) (nx _) (by decide) rfl
 rw [List.set_set] at s1
 have s2:=s1.seg Qa (i:=i) (j:=2) (x':=⟨⟨b0,b1,b2,a3,a4,a5,a6,a7⟩,s⟩) (u:=.int .i64 b2) (nx _) (by decide) rfl
 rw [List.set_set] at s2
 have s3:=s2.seg Qa (i:=i) (j:=3) (x':=⟨⟨b0,b1,b2,b3,a4,a5,a6,a7⟩,s⟩) (u:=.int .i64 b3) (nx _) (by decide) rfl
 rw [List.set_set] at s3
 have s4:=s3.seg Qa (i:=i) (j:=4) (x':=⟨⟨b0,b1,b2,b3,b4,a5,a6,a7⟩,s⟩) (u:=.int .i64 b4) (nx _) (by decide) rfl
 rw [List.set_set] at s4
 have s5:=s4.seg Qa (i:=i) (j:=5) (x':=⟨⟨b0,b1,b2,b3,b4,b5,a6,a7⟩,s⟩) (u:=.int .i64 b5) (nx _) (by decide) rfl
 rw [List.set_set] at s5
 have s6:=s5.seg Qa (i:=i) (j:=6) (x':=⟨⟨b0,b1,b2,b3,b4,b5,b6,a7⟩,s⟩) (u:=.int .i64 b6) (nx _) (by decide) rfl
 rw [List.set_set] at s6
 have s7:=s6.seg Qa (i:=i) (j:=7) (x':=⟨⟨b0,b1,b2,b3,b4,b5,b6,b7⟩,s⟩) (u:=.int .i64 b7) (nx _) (by decide) rfl
 rw [List.set_set] at s7
 have s8:=s7.seg Qa (i:=i) (j:=8) (x':=⟨⟨b0,b1,b2,b3,b4,b5,b6,b7⟩,r⟩) (u:=r.v) (nx _) (by decide) rfl
 rw [List.set_set] at s8
 exact s8
theorem qbq {w:World} {b:Nat} {T:TypeId} {xs:List Ce} (o:Ob w b T (xs.flatMap fC).toArray) {i:Nat} {x:Ce} (hi:xs[i]? = some x) (y:Ce) :
  Ob (((w.setCell ⟨b,i * 3,none⟩ (.int .i64 y.s)).setCell ⟨b,i * 3+1,none⟩ (.int .i64 y.k)).setCell ⟨b,i * 3+2,none⟩ (.int .i64 y.d)) b T ((xs.set i y).flatMap fC).toArray:=by
 obtain ⟨a0,a1,a2⟩:=x
 obtain ⟨b0,b1,b2⟩:=y
 have hl:=(List.getElem?_eq_some_iff.1 hi).1
 have nx:∀ z:Ce,(xs.set i z)[i]? = some z:=fun z=>by rw [List.getElem?_set_self hl]
 have s0:=o.seg Z8 (i:=i) (j:=0) (x':=⟨b0,a1,a2⟩) (u:=.int .i64 b0) hi (by decide) rfl
 have s1:=s0.seg Z8 (i:=i) (j:=1) (x':=⟨b0,b1,a2⟩) (u:=.int .i64 b1) (nx _) (by decide) rfl
 rw [List.set_set] at s1
 have s2:=s1.seg Z8 (i:=i) (j:=2) (x':=⟨b0,b1,b2⟩) (u:=.int .i64 b2) (nx _) (by decide) rfl
 rw [List.set_set] at s2
 exact s2
theorem fr9 {w:World} {b:Nat} (i0 i1 i2 i3 i4 i5 i6 i7 i8:Nat) (v0 v1 v2 v3 v4 v5 v6 v7 v8:Value):Fr [b] w (((((((((w.setCell ⟨b,i0,none⟩ v0).setCell ⟨b,i1,none⟩ v1).setCell ⟨b,i2,none⟩ v2).setCell ⟨b,i3,none⟩ v3).setCell ⟨b,i4,none⟩ v4).setCell ⟨b,i5,none⟩ v5).setCell ⟨b,i6,none⟩ v6).setCell ⟨b,i7,none⟩ v7).setCell ⟨b,i8,none⟩ v8):=by
 have hb:b∈[b]:=List.mem_singleton.2 rfl
 exact ((((((((Fr.setCell v0 hb).setCell' v1 hb).setCell' v2 hb).setCell' v3 hb).setCell' v4 hb).setCell' v5 hb).setCell' v6 hb).setCell' v7 hb).setCell' v8 hb
theorem fr3c {w:World} {b:Nat} (i0 i1 i2:Nat) (v0 v1 v2:Value):Fr [b] w (((w.setCell ⟨b,i0,none⟩ v0).setCell ⟨b,i1,none⟩ v1).setCell ⟨b,i2,none⟩ v2):=by
 have hb:b∈[b]:=List.mem_singleton.2 rfl
 exact ((Fr.setCell v0 hb).setCell' v1 hb).setCell' v2 hb
theorem meas {n j:Nat} {z:Int} (hz:z=(j:Int)+1) (h:n - (j+1)<n - j):n - z.toNat<n - ((j:Int)).toNat:=by
 subst hz;rw [show ((j:Int)+1).toNat=j+1 by omega,Int.toNat_natCast];exact h
end Go.Proofs.YtppajakfaomkaaaGreatDoor.Mx
