/- Texts that this proof leans on, one behind the other: Chs, Rf6b, RItems. -/
import Derived.Test.YtilipdnchflkhaaGreatDoorVam
import Derived.Test.YtilipdnchflkhaaGreatDoorVan
import Derived.Test.YtilipdnchflkhaaGreatDoorVao
set_option linter.unusedVariables false
set_option linter.unusedSimpArgs false
set_option maxRecDepth 100000
set_option maxHeartbeats 12800000
namespace Go.Proofs.YtilipdnchflkhaaGreatDoor.Mx
open Go.RowKit Go.Proofs.YtilipdnchflkhaaGreatDoor.Ar Go.Proofs.YtilipdnchflkhaaGreatDoor.Vw
structure Chs where
 h:Hd
 s:Sv
def fH (x:Chs):List Value:=[.int .i64 x.h.at_,.int .i64 x.h.mn,.int .i64 x.h.ct,.int .i64 x.h.nx,.int .i64 x.h.ld,.int .i64 x.h.mt,.int .i64 x.h.rp,.int .i64 x.h.st,x.s.v]
theorem fH_lays:Lays fH 9:=⟨fun _=>rfl,fun x u hu=>by simp [fH] at hu;rcases hu with rfl | rfl | rfl | rfl | rfl | rfl | rfl | rfl | rfl <;> rfl,by decide⟩
theorem chI:(Tryz.prog.info? 70).map (fun i=>(i.zero,i.size,i.bytes))=some (some (.agg #[.int .i64 0,.int .i64 0,.int .i64 0,.int .i64 0,.int .i64 0,.int .i64 0,.int .i64 0,.int .i64 0,.slice none 0 0]),9,88):=by kernel_rfl
def ceO (o:Option It):Ce:=match o with
 | some x=>⟨stateW x.v,x.k,x.d⟩
 | none=>⟨0,0,0⟩
def cesOf (cap:Nat) (g:List It):List Ce:=(List.range cap).map fun j=>ceO g[j]?
theorem ces_len (cap:Nat) (g:List It):(cesOf cap g).length=cap:=by simp [cesOf]
theorem ces_at {cap:Nat} {g:List It} {j:Nat} (h:j<cap):(cesOf cap g)[j]? = some (ceO g[j]?):=by simp [cesOf,h]
def hdOf (n:Nk):Hd:=⟨n.at_,n.mn,n.ct,n.nx,0,0,0,0⟩
def ChsIs (w:World) (xs:List Chs) (ns:List Nk) (cap:Nat):Prop:=xs.length=ns.length∧∀ (i:Nat) (x:Chs) (n:Nk),xs[i]? = some x→ns[i]? = some n→x.h=hdOf n∧Sq fC w x.s.v (cesOf cap n.its)
theorem ChsIs.up {w w':World} {xs:List Chs} {ns:List Nk} {cap:Nat} (h:ChsIs w xs ns cap) (f:Fr [] w w'):ChsIs w' xs ns cap :=
 ⟨h.1,fun i x n e1 e2=>⟨(h.2 i x n e1 e2).1,(h.2 i x n e1 e2).2.up f⟩⟩
def zCh:Chs:=⟨⟨0,0,0,0,0,0,0,0⟩,⟨none,0,0⟩⟩
def zCe:Ce:=⟨0,0,0⟩
theorem ob_seg9 {w:World} {b:Nat} {T:TypeId} {xs:List Chs} (o:Ob w b T (xs.flatMap fH).toArray) {i:Nat} {x:Chs} (hi:xs[i]? = some x) (y:Chs) :
  Ob (((((((((w.setCell ⟨b,i * 9,none⟩ (.int .i64 y.h.at_)).setCell ⟨b,i * 9+1,none⟩ (.int .i64 y.h.mn)).setCell ⟨b,i * 9+2,none⟩ (.int .i64 y.h.ct)).setCell ⟨b,i * 9+3,none⟩ (.int .i64 y.h.nx)).setCell ⟨b,i * 9+4,none⟩ (.int .i64 y.h.ld)).setCell ⟨b,i * 9+5,none⟩ (.int .i64 y.h.mt)).setCell ⟨b,i * 9+6,none⟩ (.int .i64 y.h.rp)).setCell ⟨b,i * 9+7,none⟩ (.int .i64 y.h.st)).setCell ⟨b,i * 9+8,none⟩ y.s.v) b T ((xs.set i y).flatMap fH).toArray:=by
 obtain ⟨⟨a0,a1,a2,a3,a4,a5,a6,a7⟩,s⟩:=x
 obtain ⟨⟨b0,b1,b2,b3,b4,b5,b6,b7⟩,r⟩:=y
 have hl:=(List.getElem?_eq_some_iff.1 hi).1
 have nx:∀ z:Chs,(xs.set i z)[i]? = some z:=fun z=>by rw [List.getElem?_set_self hl]
 have s0:=o.seg fH_lays (i:=i) (j:=0) (x':=⟨⟨b0,a1,a2,a3,a4,a5,a6,a7⟩,s⟩) (u:=.int .i64 b0) hi (by decide) rfl
 have s1:=s0.seg fH_lays (i:=i) (j:=1) (x':=⟨⟨b0,b1,a2,a3,a4,a5,a6,a7⟩,s⟩) (u:=.int .i64 b1) (nx _) (by decide) rfl
 rw [List.set_set] at s1
 have s2:=s1.seg fH_lays (i:=i) (j:=2) (x':=⟨⟨b0,b1,b2,a3,a4,a5,a6,a7⟩,s⟩) (u:=.int .i64 b2) (nx _) (by decide) rfl
 rw [List.set_set] at s2
 have s3:=s2.seg fH_lays (i:=i) (j:=3) (x':=⟨⟨b0,b1,b2,b3,a4,a5,a6,a7⟩,s⟩) (u:=.int .i64 b3) (nx _) (by decide) rfl
 rw [List.set_set] at s3
 have s4:=s3.seg fH_lays (i:=i) (j:=4) (x':=⟨⟨b0,b1,b2,b3,b4,a5,a6,a7⟩,s⟩) (u:=.int .i64 b4) (nx _) (by decide) rfl
 rw [List.set_set] at s4
 have s5:=s4.seg fH_lays (i:=i) (j:=5) (x':=⟨⟨b0,b1,b2,b3,b4,b5,a6,a7⟩,s⟩) (u:=.int .i64 b5) (nx _) (by decide) rfl
 rw [List.set_set] at s5
 have s6:=s5.seg fH_lays (i:=i) (j:=6) (x':=⟨⟨b0,b1,b2,b3,b4,b5,b6,a7⟩,s⟩) (u:=.int .i64 b6) (nx _) (by decide) rfl
 rw [List.set_set] at s6
 have s7:=s6.seg fH_lays (i:=i) (j:=7) (x':=⟨⟨b0,b1,b2,b3,b4,b5,b6,b7⟩,s⟩) (u:=.int .i64 b7) (nx _) (by decide) rfl
 rw [List.set_set] at s7
 have s8:=s7.seg fH_lays (i:=i) (j:=8) (x':=⟨⟨b0,b1,b2,b3,b4,b5,b6,b7⟩,r⟩) (u:=r.v) (nx _) (by decide) rfl
 rw [List.set_set] at s8
 exact s8
theorem ob_seg3 {w:World} {b:Nat} {T:TypeId} {xs:List Ce} (o:Ob w b T (xs.flatMap fC).toArray) {i:Nat} {x:Ce} (hi:xs[i]? = some x) (y:Ce) :
  Ob (((w.setCell ⟨b,i * 3,none⟩ (.int .i64 y.s)).setCell ⟨b,i * 3+1,none⟩ (.int .i64 y.k)).setCell ⟨b,i * 3+2,none⟩ (.int .i64 y.d)) b T ((xs.set i y).flatMap fC).toArray:=by
 obtain ⟨a0,a1,a2⟩:=x
 obtain ⟨b0,b1,b2⟩:=y
 have hl:=(List.getElem?_eq_some_iff.1 hi).1
 have nx:∀ z:Ce,(xs.set i z)[i]? = some z:=fun z=>by rw [List.getElem?_set_self hl]
 have s0:=o.seg fC_lays (i:=i) (j:=0) (x':=⟨b0,a1,a2⟩) (u:=.int .i64 b0) hi (by decide) rfl
 have s1:=s0.seg fC_lays (i:=i) (j:=1) (x':=⟨b0,b1,a2⟩) (u:=.int .i64 b1) (nx _) (by decide) rfl
 rw [List.set_set] at s1
 have s2:=s1.seg fC_lays (i:=i) (j:=2) (x':=⟨b0,b1,b2⟩) (u:=.int .i64 b2) (nx _) (by decide) rfl
 rw [List.set_set] at s2
 exact s2
theorem fr9 {w:World} {b:Nat} (i0 i1 i2 i3 i4 i5 i6 i7 i8:Nat) (v0 v1 v2 v3 v4 v5 v6 v7 v8:Value):Fr [b] w (((((((((w.setCell ⟨b,i0,none⟩ v0).setCell ⟨b,i1,none⟩ v1).setCell ⟨b,i2,none⟩ v2).setCell ⟨b,i3,none⟩ v3).setCell ⟨b,i4,none⟩ v4).setCell ⟨b,i5,none⟩ v5).setCell ⟨b,i6,none⟩ v6).setCell ⟨b,i7,none⟩ v7).setCell ⟨b,i8,none⟩ v8):=by
 have hb:b∈[b]:=List.mem_singleton.2 rfl
 exact ((((((((Fr.setCell v0 hb).setCell' v1 hb).setCell' v2 hb).setCell' v3 hb).setCell' v4 hb).setCell' v5 hb).setCell' v6 hb).setCell' v7 hb).setCell' v8 hb
theorem fr3c {w:World} {b:Nat} (i0 i1 i2:Nat) (v0 v1 v2:Value):Fr [b] w (((w.setCell ⟨b,i0,none⟩ v0).setCell ⟨b,i1,none⟩ v1).setCell ⟨b,i2,none⟩ v2):=by
 have hb:b∈[b]:=List.mem_singleton.2 rfl
 exact ((Fr.setCell v0 hb).setCell' v1 hb).setCell' v2 hb
theorem meas {n j:Nat} {z:Int} (hz:z=(j:Int)+1) (h:n - (j+1)<n - j):n - z.toNat<n - ((j:Int)).toNat:=by
 subst hz;rw [show ((j:Int)+1).toNat=j+1 by omega,Int.toNat_natCast];exact h
end Go.Proofs.YtilipdnchflkhaaGreatDoor.Mx
namespace Go.Proofs.YtilipdnchflkhaaGreatDoor.Vw
open Go.RowKit Go.Proofs.YtilipdnchflkhaaGreatDoor.Ar Go.Proofs.YtilipdnchflkhaaGreatDoor.Mx
theorem rsame_any (h k:Hd) (cs ds:List Ce) (u v:Value) (w:World) (hl:cs.length≤1000) (hl2:ds.length≤1000) (hu:Sq fC w u cs) (hv:Sq fC w v ds) :
  Calls Tryz.prog 42 #[chV h u,chV k v] w fun e w'=>e = .returned (.bool (decide (h=k∧cs=ds)))∧Fr [] w w':=by
 obtain ⟨au,cu,rfl,hcu,hmu,-⟩:=id hu
 obtain ⟨av,cv,rfl,hcv,hmv,-⟩:=id hv
 have HS:=Lib.hid (And.intro hu hv)
 obtain ⟨a0,a1,a2,a3,a4,a5,a6,a7⟩:=h
 obtain ⟨b0,b1,b2,b3,b4,b5,b6,b7⟩:=k
 clear hu hv
 unfold chV
 by_cases e0:a0=b0
 rotate_left
 ·have g:(a0 != b0)=true:=by simpa using e0
  rw [show decide ((⟨a0,a1,a2,a3,a4,a5,a6,a7⟩:Hd)=⟨b0,b1,b2,b3,b4,b5,b6,b7⟩∧cs=ds)=false from decide_eq_false (by rintro ⟨e,-⟩;simp only [Hd.mk.injEq] at e;exact e0 e.1)]
  clear e0
  have F0:=((Fr.refl [] w).alloc (.cells #[.int .i64 a0,.int .i64 a1,.int .i64 a2,.int .i64 a3,.int .i64 a4,.int .i64 a5,.int .i64 a6,.int .i64 a7,.slice au cs.length cu] 70)).alloc (.cells #[.int .i64 b0,.int .i64 b1,.int .i64 b2,.int .i64 b3,.int .i64 b4,.int .i64 b5,.int .i64 b6,.int .i64 b7,.slice av ds.length cv] 70)
  go_enter Tryz.func42,Tryz.ntmps42
  go_wp2
  go_ret
  exact ⟨rfl,F0⟩
 subst e0
 by_cases e1:a1=b1
 rotate_left
 ·have g:(a1 != b1)=true:=by simpa using e1
  rw [show decide ((⟨a0,a1,a2,a3,a4,a5,a6,a7⟩:Hd)=⟨a0,b1,b2,b3,b4,b5,b6,b7⟩∧cs=ds)=false from decide_eq_false (by rintro ⟨e,-⟩;simp only [Hd.mk.injEq] at e;exact e1 e.2.1)]
  clear e1
  have F0:=((Fr.refl [] w).alloc (.cells #[.int .i64 a0,.int .i64 a1,.int .i64 a2,.int .i64 a3,.int .i64 a4,.int .i64 a5,.int .i64 a6,.int .i64 a7,.slice au cs.length cu] 70)).alloc (.cells #[.int .i64 a0,.int .i64 b1,.int .i64 b2,.int .i64 b3,.int .i64 b4,.int .i64 b5,.int .i64 b6,.int .i64 b7,.slice av ds.length cv] 70)
  go_enter Tryz.func42,Tryz.ntmps42
  go_wp2
  go_ret
  exact ⟨rfl,F0⟩
 subst e1
 by_cases e2:a2=b2
 rotate_left
 ·have g:(a2 != b2)=true:=by simpa using e2
  rw [show decide ((⟨a0,a1,a2,a3,a4,a5,a6,a7⟩:Hd)=⟨a0,a1,b2,b3,b4,b5,b6,b7⟩∧cs=ds)=false from decide_eq_false (by rintro ⟨e,-⟩;simp only [Hd.mk.injEq] at e;exact e2 e.2.2.1)]
  clear e2
  have F0:=((Fr.refl [] w).alloc (.cells #[.int .i64 a0,.int .i64 a1,.int .i64 a2,.int .i64 a3,.int .i64 a4,.int .i64 a5,.int .i64 a6,.int .i64 a7,.slice au cs.length cu] 70)).alloc (.cells #[.int .i64 a0,.int .i64 a1,.int .i64 b2,.int .i64 b3,.int .i64 b4,.int .i64 b5,.int .i64 b6,.int .i64 b7,.slice av ds.length cv] 70)
  go_enter Tryz.func42,Tryz.ntmps42
  go_wp2
  go_ret
  exact ⟨rfl,F0⟩
 subst e2
 by_cases e3:a3=b3
 rotate_left
 ·have g:(a3 != b3)=true:=by simpa using e3
  rw [show decide ((⟨a0,a1,a2,a3,a4,a5,a6,a7⟩:Hd)=⟨a0,a1,a2,b3,b4,b5,b6,b7⟩∧cs=ds)=false from decide_eq_false (by rintro ⟨e,-⟩;simp only [Hd.mk.injEq] at e;exact e3 e.2.2.2.1)]
  clear e3
  have F0:=((Fr.refl [] w).alloc (.cells #[.int .i64 a0,.int .i64 a1,.int .i64 a2,.int .i64 a3,.int .i64 a4,.int .i64 a5,.int .i64 a6,.int .i64 a7,.slice au cs.length cu] 70)).alloc (.cells #[.int .i64 a0,.int .i64 a1,.int .i64 a2,.int .i64 b3,.int .i64 b4,.int .i64 b5,.int .i64 b6,.int .i64 b7,.slice av ds.length cv] 70)
  go_enter Tryz.func42,Tryz.ntmps42
  go_wp2
  go_ret
  exact ⟨rfl,F0⟩
 subst e3
 by_cases e4:a4=b4
 rotate_left
 ·have g:(a4 != b4)=true:=by simpa using e4
  rw [show decide ((⟨a0,a1,a2,a3,a4,a5,a6,a7⟩:Hd)=⟨a0,a1,a2,a3,b4,b5,b6,b7⟩∧cs=ds)=false from decide_eq_false (by rintro ⟨e,-⟩;simp only [Hd.mk.injEq] at e;exact e4 e.2.2.2.2.1)]
  clear e4
  have F0:=((Fr.refl [] w).alloc (.cells #[.int .i64 a0,.int .i64 a1,.int .i64 a2,.int .i64 a3,.int .i64 a4,.int .i64 a5,.int .i64 a6,.int .i64 a7,.slice au cs.length cu] 70)).alloc (.cells #[.int .i64 a0,.int .i64 a1,.int .i64 a2,.int .i64 a3,.int .i64 b4,.int .i64 b5,.int .i64 b6,.int .i64 b7,.slice av ds.length cv] 70)
  go_enter Tryz.func42,Tryz.ntmps42
  go_wp2
  go_ret
  exact ⟨rfl,F0⟩
 subst e4
 by_cases e5:a5=b5
 rotate_left
 ·have g:(a5 != b5)=true:=by simpa using e5
  rw [show decide ((⟨a0,a1,a2,a3,a4,a5,a6,a7⟩:Hd)=⟨a0,a1,a2,a3,a4,b5,b6,b7⟩∧cs=ds)=false from decide_eq_false (by rintro ⟨e,-⟩;simp only [Hd.mk.injEq] at e;exact e5 e.2.2.2.2.2.1)]
  clear e5
  have F0:=((Fr.refl [] w).alloc (.cells #[.int .i64 a0,.int .i64 a1,.int .i64 a2,.int .i64 a3,.int .i64 a4,.int .i64 a5,.int .i64 a6,.int .i64 a7,.slice au cs.length cu] 70)).alloc (.cells #[.int .i64 a0,.int .i64 a1,.int .i64 a2,.int .i64 a3,.int .i64 a4,.int .i64 b5,.int .i64 b6,.int .i64 b7,.slice av ds.length cv] 70)
  go_enter Tryz.func42,Tryz.ntmps42
  go_wp2
  go_ret
  exact ⟨rfl,F0⟩
 subst e5
 by_cases e6:a6=b6
 rotate_left
 ·have g:(a6 != b6)=true:=by simpa using e6
  rw [show decide ((⟨a0,a1,a2,a3,a4,a5,a6,a7⟩:Hd)=⟨a0,a1,a2,a3,a4,a5,b6,b7⟩∧cs=ds)=false from decide_eq_false (by rintro ⟨e,-⟩;simp only [Hd.mk.injEq] at e;exact e6 e.2.2.2.2.2.2.1)]
  clear e6
  have F0:=((Fr.refl [] w).alloc (.cells #[.int .i64 a0,.int .i64 a1,.int .i64 a2,.int .i64 a3,.int .i64 a4,.int .i64 a5,.int .i64 a6,.int .i64 a7,.slice au cs.length cu] 70)).alloc (.cells #[.int .i64 a0,.int .i64 a1,.int .i64 a2,.int .i64 a3,.int .i64 a4,.int .i64 a5,.int .i64 b6,.int .i64 b7,.slice av ds.length cv] 70)
  go_enter Tryz.func42,Tryz.ntmps42
  go_wp2
  go_ret
  exact ⟨rfl,F0⟩
 subst e6
 by_cases e7:a7=b7
 rotate_left
 ·have g:(a7 != b7)=true:=by simpa using e7
  rw [show decide ((⟨a0,a1,a2,a3,a4,a5,a6,a7⟩:Hd)=⟨a0,a1,a2,a3,a4,a5,a6,b7⟩∧cs=ds)=false from decide_eq_false (by rintro ⟨e,-⟩;simp only [Hd.mk.injEq] at e;exact e7 e.2.2.2.2.2.2.2)]
  clear e7
  have F0:=((Fr.refl [] w).alloc (.cells #[.int .i64 a0,.int .i64 a1,.int .i64 a2,.int .i64 a3,.int .i64 a4,.int .i64 a5,.int .i64 a6,.int .i64 a7,.slice au cs.length cu] 70)).alloc (.cells #[.int .i64 a0,.int .i64 a1,.int .i64 a2,.int .i64 a3,.int .i64 a4,.int .i64 a5,.int .i64 a6,.int .i64 b7,.slice av ds.length cv] 70)
  go_enter Tryz.func42,Tryz.ntmps42
  go_wp2
  go_ret
  exact ⟨rfl,F0⟩
 subst e7
 have hE:decide ((⟨a0,a1,a2,a3,a4,a5,a6,a7⟩:Hd)=⟨a0,a1,a2,a3,a4,a5,a6,a7⟩∧cs=ds)=decide (cs=ds):=by simp
 rw [hE]
 clear hE
 by_cases hll:cs.length=ds.length
 rotate_left
 ·have g:((cs.length:Int) != ds.length)=true:=by simp;omega
  have HR:=Lib.hid (show decide (cs=ds)=false from decide_eq_false (fun e=>hll (by rw [e])))
  clear hll
  have F0:=((Fr.refl [] w).alloc (.cells #[.int .i64 a0,.int .i64 a1,.int .i64 a2,.int .i64 a3,.int .i64 a4,.int .i64 a5,.int .i64 a6,.int .i64 a7,.slice au cs.length cu] 70)).alloc (.cells #[.int .i64 a0,.int .i64 a1,.int .i64 a2,.int .i64 a3,.int .i64 a4,.int .i64 a5,.int .i64 a6,.int .i64 a7,.slice av ds.length cv] 70)
  go_enter Tryz.func42,Tryz.ntmps42
  go_wp2
  go_ret
  exact ⟨by rw [HR.out];rfl,F0⟩
 have g:((cs.length:Int) != ds.length)=false:=by simp [hll]
 have HLL:=Lib.hid hll
 have F1:=(Fr.refl [] w).alloc (.cells #[.int .i64 a0,.int .i64 a1,.int .i64 a2,.int .i64 a3,.int .i64 a4,.int .i64 a5,.int .i64 a6,.int .i64 a7,.slice au cs.length cu] 70)
 have o1:=Ob.new w 70 #[.int .i64 a0,.int .i64 a1,.int .i64 a2,.int .i64 a3,.int .i64 a4,.int .i64 a5,.int .i64 a6,.int .i64 a7,.slice au cs.length cu]
 have HU:=Lib.hid (And.intro F1 o1)
 clear F1 o1 hll
 go_enter Tryz.func42,Tryz.ntmps42
 go_wp2_with fail
 have HO:=Lib.hid (show ∀ W,Fr [] ((w.alloc (.cells #[.int .i64 a0,.int .i64 a1,.int .i64 a2,.int .i64 a3,.int .i64 a4,.int .i64 a5,.int .i64 a6,.int .i64 a7,.slice au cs.length cu] 70)).alloc (.cells #[.int .i64 a0,.int .i64 a1,.int .i64 a2,.int .i64 a3,.int .i64 a4,.int .i64 a5,.int .i64 a6,.int .i64 a7,.slice av ds.length cv] 70)) W →
   Fr [] w W∧W.cell? ⟨w.heap.size,8,none⟩=some (.slice au cs.length cu)∧W.cell? ⟨w.heap.size+1,8,none⟩=some (.slice av ds.length cv) from fun W F=>by
  have o2:=Ob.newAt (sizeA w (.cells #[.int .i64 a0,.int .i64 a1,.int .i64 a2,.int .i64 a3,.int .i64 a4,.int .i64 a5,.int .i64 a6,.int .i64 a7,.slice au cs.length cu] 70)) 70 #[.int .i64 a0,.int .i64 a1,.int .i64 a2,.int .i64 a3,.int .i64 a4,.int .i64 a5,.int .i64 a6,.int .i64 a7,.slice av ds.length cv]
  exact ⟨((HU.out.1.alloc _).trans F),((HU.out.2.alloc _).up F).cell rfl,(o2.up F).cell rfl⟩)
 generalize ((w.alloc (.cells #[.int .i64 a0,.int .i64 a1,.int .i64 a2,.int .i64 a3,.int .i64 a4,.int .i64 a5,.int .i64 a6,.int .i64 a7,.slice au cs.length cu] 70)).alloc (.cells #[.int .i64 a0,.int .i64 a1,.int .i64 a2,.int .i64 a3,.int .i64 a4,.int .i64 a5,.int .i64 a6,.int .i64 a7,.slice av ds.length cv] 70))=w1 at *
 generalize w.heap.size+1=p2 at *
 generalize hp1:w.heap.size=p1 at *
 clear hp1 HU g
 go_loopw [5] (EqCAt w1 cs ds) (fun x _=>cs.length - (intOf x).toNat)
 case atStart=>exact ⟨0,by omega,rfl,Fr.refl _ _,rfl⟩
 case round =>
  obtain ⟨i,hi,rfl,F,hI⟩:=hrel
  obtain ⟨FW,b1,b2⟩:=HO.out wr F
  by_cases hlt:i<cs.length
  ·have HI2:=Lib.hid (show i+1≤cs.length∧cs.length - (i+1)<cs.length - i by omega)
   have hltz:(i:Int)<(cs.length:Int):=by omega
   have hltz2:(i:Int)<(ds.length:Int):=by have:=HLL.out;omega
   have hi0:(0:Int)≤(i:Int):=by omega
   obtain ⟨x,hx⟩:∃ x,cs[i]? = some x:=⟨cs[i],List.getElem?_eq_getElem _⟩
   obtain ⟨y,hy⟩:∃ y,ds[i]? = some y:=⟨ds[i]'(by omega),List.getElem?_eq_getElem _⟩
   obtain ⟨gu,ou,rfl,u0,u1,u2⟩:=ce_cells (HS.out.1.up FW) hx
   obtain ⟨gv,ov,rfl,v0,v1,v2⟩:=ce_cells (HS.out.2.up FW) hy
   have hne:=ce_neq x y
   obtain ⟨q,hg⟩:∃ q,decide (x≠y)=q:=⟨_,rfl⟩
   rw [hg] at hne
   have HG:=Lib.hid hg
   have HX:=Lib.hid hx
   have HY:=Lib.hid hy
   have HI:=Lib.hid hI
   have hgd:=ceGuard
   have HF:=Lib.hid (And.intro F FW)
   have c1:=In.cell b1
   have c2:=In.cell b2
   have k0:=In.cell u0
   have k1:=In.cell u1
   have k2:=In.cell u2
   have k3:=In.cell v0
   have k4:=In.cell v1
   have k5:=In.cell v2
   clear F FW u0 u1 u2 v0 v1 v2 hx hy hg hI
   go_wp2_with fail
   refine wi ?_
   repeat (go_big_quiet_step (fail))
   refine wpQuiet_nil ?_
   intro w5 F5
   clear c1 c2 k0 k1 k2 k3 k4 k5 hne hgd b1 b2
   cases q with
   | true =>
    go_wp2
    go_ret
    exact ⟨by rw [take_less HX.out HY.out (of_decide_eq_true HG.out)];rfl,HF.out.2.trans F5⟩
   | false =>
    go_wp2_with fail
    go_roundw
    case rel=>exact ⟨i+1,HI2.out.1,by simp,HF.out.1.trans F5,take_more HI.out HX.out HY.out (by have:=HG.out;simpa using this)⟩
    case measure=>exact meas rfl HI2.out.2
  ·have hge:¬ (i:Int)<(cs.length:Int):=by omega
   have HI:=Lib.hid hI
   have HF:=Lib.hid FW
   have hie:i=cs.length:=by omega
   have HE:=Lib.hid hie
   clear F FW hI hie
   go_wp2_with fail
   go_ret
   exact ⟨by
    have:=HI.out
    rw [HE.out,List.take_length,HLL.out,List.take_length] at this
    rw [decide_eq_true this];rfl,HF.out⟩
end Go.Proofs.YtilipdnchflkhaaGreatDoor.Vw
namespace Go.Proofs.YtilipdnchflkhaaGreatDoor.Mx
open Go.RowKit Go.Proofs.YtilipdnchflkhaaGreatDoor.Ar Go.Proofs.YtilipdnchflkhaaGreatDoor.Vw
def RtAt (w:World) (cs:List Ce) (u x:Value) (wr:World):Prop:=∃ i,i≤cs.length∧x = .int .i64 (i:Nat)∧wr.ownsRow w.heap.size 60 3 u (itemsC (cs.take i)).length ((itemsC (cs.take i)).flatMap fT)∧Fr [] w wr
theorem ritems_any (h:Hd) (cs:List Ce) (lv:Value) (w:World) (hl:cs.length≤1000) (hs:Sq fC w lv cs) :
  Calls Tryz.prog 46 #[chV h lv] w fun e w'=>(∃ u,e = .returned u∧w'.ownsRow w.heap.size 60 3 u (itemsC cs).length ((itemsC cs).flatMap fT))∧Fr [] w w':=by
 obtain ⟨a,cap,rfl,hcap,hmax,-⟩:=id hs
 unfold chV
 have o0:=Ob.new w 70 #[.int .i64 h.at_,.int .i64 h.mn,.int .i64 h.ct,.int .i64 h.nx,.int .i64 h.ld,.int .i64 h.mt,.int .i64 h.rp,.int .i64 h.st,.slice a cs.length cap]
 have F0:=(Fr.refl [] w).alloc (.cells #[.int .i64 h.at_,.int .i64 h.mn,.int .i64 h.ct,.int .i64 h.nx,.int .i64 h.ld,.int .i64 h.mt,.int .i64 h.rp,.int .i64 h.st,.slice a cs.length cap] 70)
 go_enter Tryz.func46,Tryz.ntmps46
 go_wp2_with fail
 have hs0:=hs.up F0
 generalize (w.alloc (.cells #[.int .i64 h.at_,.int .i64 h.mn,.int .i64 h.ct,.int .i64 h.nx,.int .i64 h.ld,.int .i64 h.mt,.int .i64 h.rp,.int .i64 h.st,.slice a cs.length cap] 70))=w0 at *
 generalize hq0:w.heap.size=q0 at o0 ⊢
 have HB:=Lib.hid (And.intro o0 F0)
 clear o0 F0 hq0
 go_loopw [3,4] (RtAt w0 cs) (fun _ x _=>cs.length - (intOf x).toNat)
 case atStart=>exact ⟨0,by omega,rfl,⟨rfl,.inl ⟨rfl,rfl⟩⟩,Fr.refl _ _⟩
 case round =>
  obtain ⟨i,hi,rfl,hr,F⟩:=hrel
  have b8:wr.cell? ⟨q0,8,none⟩=some (.slice a cs.length cap):=(HB.out.1.up F).cell rfl
  by_cases hlt:i<cs.length
  ·have HI2:=Lib.hid (show i+1≤cs.length∧cs.length - (i+1)<cs.length - i by omega)
   have hltz:(i:Int)<(cs.length:Int):=by omega
   have hi0:(0:Int)≤(i:Int):=by omega
   obtain ⟨x,hx⟩:∃ x,cs[i]? = some x:=⟨cs[i],List.getElem?_eq_getElem hlt⟩
   obtain ⟨g,off,rfl,d0,d1,d2⟩:=ce_cells (hs0.up F) hx
   have hN:=Lib.hid (itemsC_succ hx)
   have hLI:=Lib.hid (Nat.le_trans (itemsC_length (cs.take i)) (by rw [List.length_take];omega:(cs.take i).length≤1000))
   have F1:=(Fr.refl [] wr).alloc (.cells #[.int .i64 x.s,.int .i64 x.k,.int .i64 x.d] 131)
   have o1:=Ob.new wr 131 #[.int .i64 x.s,.int .i64 x.k,.int .i64 x.d]
   have r1:=row_keeps hr F1
   have HF:=Lib.hid F
   by_cases h3:3≤x.s
   ·have HI:=Lib.hid (show itemC x=some ⟨x.k,verV x.s,x.d⟩ by unfold itemC;rw [if_pos h3])
    go_wp2_with fail
    have FW:=F.trans F1
    generalize (wr.alloc (.cells #[.int .i64 x.s,.int .i64 x.k,.int .i64 x.d] 131))=w5 at *
    clear hr b8 d0 d1 d2 F F1
    refine wp_region_env (by kernel_rfl) u3.ownBlock.toList (fun w2 F2=>?_)
    refine ep [true,true,true,true,true,true,true,true,true,false,false,false] 3 (F2.mono) ?_
    apply Exists.intro
    refine ⟨fun wf Ff=>?_,?_⟩
    ·have of:=Ob.kept o1 Ff (row_ne r1 o1 (by decide))
     have k0:=In.cell (of.cell (i:=0) rfl)
     have k1:=In.cell (of.cell (i:=1) rfl)
     have k2:=In.cell (of.cell (i:=2) rfl)
     clear of
     simp only [sel]
     repeat (go_big_quiet_step ((go_at_call 32;exact Calls.in_same (ver_any _ _))))
     exact wpQuiet_nil rfl
    refine eo 9 (fun w3 F3=>?_)
    have r3:=row_keeps r1 (F2.trans F3)
    have G:=FW.trans (F2.trans F3)
    have E:=(F2.trans F3).mono (T:=u3.ownBlock.toList) (by simp)
    clear r1 F2 F3 o1
    go_wp2_with fail
    have F4:=(Fr.refl [] w3).alloc (.cells #[.int .i64 x.k,.int .i64 (verW x.s),.int .i64 x.d] 60)
    have o4:=Ob.new w3 60 #[.int .i64 x.k,.int .i64 (verW x.s),.int .i64 x.d]
    refine nx_normal ⟨E.then F4,?_⟩
    refine eo 10 (fun w6 F6=>?_)
    have r6:=row_keeps r3 (F4.trans F6)
    have o6:=o4.up F6
    replace G:=G.trans (F4.trans F6)
    replace E:=E.then (F4.trans F6)
    clear r3 o4 F4 F6
    go_wp2_with (at_builtin;refine wpList_appSq fT_lays rfl _ _ 51 rfl Tryz.underlying51 itI rfl (B:=w0.heap.size) _ _ rfl r6 _ [⟨x.k,verW x.s,x.d⟩] rfl (Sq.block o6 rfl rfl (Nat.le_refl _) (by simp [maxLen])) (by have:=hLI.out;simp <;> omega) (by decide) G.size ?_;intro a7 c7 w7 r7 F7;generalize hT:itemsC (cs.take i)++[(⟨x.k,verW x.s,x.d⟩:It)]=T at r7 ⊢)
    refine nx_normal ⟨E.trans F7,?_⟩
    refine eo 11 (fun w8 F8=>?_)
    have hn:itemsC (cs.take (i+1))=T:=by rw [hN.out,HI.out,← hT];rfl
    have r8:=row_keeps r7 F8
    replace G:=(G.own F7 (row_base r6)).trans F8
    replace E:=(E.trans F7).then F8
    rw [← hn] at r8 ⊢
    clear r7 r6 o6 F7 F8 hn hT
    go_wp2
    refine nx_normal ⟨E,?_⟩
    refine env_done (by kernel_rfl) (fun w9 F9=>?_)
    have r9:=row_keeps r8 F9
    replace G:=G.trans F9
    clear r8 F9 E
    go_wp2
    exact ⟨⟨i+1,by omega,by go_num,r9,G⟩,by simp [intOf];omega⟩
   ·have HI:=Lib.hid (show itemsC (cs.take (i+1))=itemsC (cs.take i) by rw [hN.out,show itemC x=none by unfold itemC;rw [if_neg h3]];simp)
    have HR:=Lib.hid r1
    have HF2:=Lib.hid (F.trans F1)
    clear hr F F1 r1 o1
    go_wp2_with fail
    go_roundw
    case rel=>exact ⟨i+1,HI2.out.1,by simp,by rw [HI.out];exact HR.out,HF2.out⟩
    case measure=>exact meas rfl HI2.out.2
  ·obtain rfl:i=cs.length:=by omega
   rw [List.take_length] at hr
   have HR:=Lib.hid hr
   have HF:=Lib.hid (HB.out.2.trans F)
   have hsz:=HB.out.2.size
   clear hr F
   go_wp2_with fail
   go_ret
   exact ⟨⟨_,rfl,row_more HR.out hsz⟩,HF.out⟩
end Go.Proofs.YtilipdnchflkhaaGreatDoor.Mx
