/- The developers' claim at a document's one. -/
import Derived.Test.YthokjbikomjhgaaGreatDoorZKc2
import Derived.Test.YthokjbikomjhgaaGreatDoorVaj
namespace Go.Proofs.YthokjbikomjhgaaGreatDoor.Kc_u
open Go.RowKit Ar Mx
set_option linter.unusedVariables false
set_option linter.unusedSimpArgs false
structure KmR (x:Km) (y:Cm):Prop where
 vs:y.vs=x.c.v
 ps:y.ps=x.pa
 sq:y.sq=x.seq
 ln:(x.line=0∧y.ln=5)∨(1≤x.line∧x.line≤5∧y.ln=x.line - 1)
 f0:2≤x.line→y.f0<y.vs
 f2:4≤x.line→y.f2=x.v
 e0:x.line≠0→x.e=0∧x.version=0
 e5:x.line=0→(x.e=15∧y.vs≤y.f0∧x.version=0)∨(x.e=0∧y.f0<y.vs∧x.version=ku y.f4 - 2)
theorem KmR.new (c:Cf) (t sq:Int):KmR (Km.new c t sq) (Cm.new c.v t sq) :=
 ⟨rfl,rfl,rfl,.inr ⟨by show (1:Int)≤1;decide,by show (1:Int)≤5;decide,rfl⟩,fun h=>absurd h (by simp [Km.new]),fun h=>absurd h (by simp [Km.new]),fun _=>⟨rfl,rfl⟩,fun h=>by simp [Km.new] at h⟩
theorem KmR.lnb {x:Km} {y:Cm} (h:KmR x y):0≤y.ln∧y.ln≤5:=by rcases h.ln with ⟨_,e⟩ | ⟨a,b,e⟩ <;> omega
theorem KmR.over {x:Km} {y:Cm} (h:KmR x y):x.line=0↔y.ln=5:=by
 rcases h.ln with ⟨a,e⟩ | ⟨a,b,e⟩
 ·exact ⟨fun _=>e,fun _=>a⟩
 ·exact ⟨fun k=>by omega,fun k=>by omega⟩
theorem KmR.step {x:Km} {y:Cm} (h:KmR x y) (s:St):KmR (x.step s).1 (y.go s).1∧(x.step s).2=(y.go s).2:=by
 obtain ⟨c,t,sq0,line,v,ver,e⟩:=x
 obtain ⟨vs,ps,sq,ln,f0,f1,f2,f3,f4⟩:=y
 obtain ⟨h1,h2,h3,h4,h5,h6,h7,h8⟩:=h
 simp only at h1 h2 h3 h4 h5 h6 h7 h8
 subst h1 h2 h3
 rcases h4 with ⟨rfl,rfl⟩ | ⟨a,b,rfl⟩
 ·refine ⟨?_,rfl⟩
  exact ⟨rfl,rfl,rfl,.inl ⟨rfl,rfl⟩,h5,h6,h7,h8⟩
 ·obtain ⟨rfl,rfl⟩:=h7 (by omega)
  rcases (by omega:line=1∨line=2∨line=3∨line=4∨line=5) with rfl | rfl | rfl | rfl | rfl
  ·by_cases hv:c.v≤qw s.l 1
   ·have e1:(⟨c.v,qab t,sq,0,f0,f1,f2,f3,f4⟩:Cm).go s=(⟨c.v,qab t,sq,5,qw s.l 1,f1,f2,f3,f4⟩,s.load 1):=by
     simp only [Cm.go,Cm.step,Cm.act,Cm.told,Cm.put,Cm.behL];simp [hv]
    have e2:(⟨c,t,sq,1,v,0,0⟩:Km).step s=(⟨c,t,sq,0,v,0,15⟩,s.load 1):=by
     simp [Km.step,Km.live,Km.next,Km.told,Km.act,hv]
    show KmR ((⟨c,t,sq,1,v,0,0⟩:Km).step s).1 ((⟨c.v,qab t,sq,0,f0,f1,f2,f3,f4⟩:Cm).go s).1∧_=((⟨c.v,qab t,sq,0,f0,f1,f2,f3,f4⟩:Cm).go s).2
    rw [e1,e2]
    exact ⟨⟨rfl,rfl,rfl,.inl ⟨rfl,rfl⟩,fun k=>absurd k (by simp),fun k=>absurd k (by simp),fun k=>absurd rfl k,fun _=>.inl ⟨rfl,hv,rfl⟩⟩,rfl⟩
   ·have e1:(⟨c.v,qab t,sq,0,f0,f1,f2,f3,f4⟩:Cm).go s=(⟨c.v,qab t,sq,1,qw s.l 1,f1,f2,f3,f4⟩,s.load 1):=by
     simp only [Cm.go,Cm.step,Cm.act,Cm.told,Cm.put,Cm.behL];simp [hv];decide +kernel
    have e2:(⟨c,t,sq,1,v,0,0⟩:Km).step s=(⟨c,t,sq,2,v,0,0⟩,s.load 1):=by
     simp [Km.step,Km.live,Km.next,Km.told,Km.act,hv]
    show KmR ((⟨c,t,sq,1,v,0,0⟩:Km).step s).1 ((⟨c.v,qab t,sq,0,f0,f1,f2,f3,f4⟩:Cm).go s).1∧_=((⟨c.v,qab t,sq,0,f0,f1,f2,f3,f4⟩:Cm).go s).2
    rw [e1,e2]
    exact ⟨⟨rfl,rfl,rfl,.inr ⟨by simp,by simp,rfl⟩,fun _=>by simp only;omega,fun k=>absurd k (by simp),fun _=>⟨rfl,rfl⟩,fun k=>absurd k (by simp)⟩,rfl⟩
  ·have hv:=h5 (by omega)
   have e1:(⟨c.v,qab t,sq,1,f0,f1,f2,f3,f4⟩:Cm).go s=(⟨c.v,qab t,sq,2,f0,0,f2,f3,f4⟩,s.store (qab t) (wu sq 1)):=by
    simp only [Cm.go,Cm.step,Cm.act,Cm.told,Cm.put,Cm.behL];simp [Int.not_le.mpr hv];decide +kernel
   have e2:(⟨c,t,sq,2,v,0,0⟩:Km).step s=(⟨c,t,sq,3,v,0,0⟩,s.store (qab t) (wu sq 1)):=by
    simp [Km.step,Km.live,Km.next,Km.told,Km.act,Km.pa]
   show KmR ((⟨c,t,sq,2,v,0,0⟩:Km).step s).1 ((⟨c.v,qab t,sq,1,f0,f1,f2,f3,f4⟩:Cm).go s).1∧_=((⟨c.v,qab t,sq,1,f0,f1,f2,f3,f4⟩:Cm).go s).2
   rw [e1,e2]
   exact ⟨⟨rfl,rfl,rfl,.inr ⟨by simp,by simp,rfl⟩,fun _=>hv,fun k=>absurd k (by simp),fun _=>⟨rfl,rfl⟩,fun k=>absurd k (by simp)⟩,rfl⟩
  ·have hv:=h5 (by omega)
   have e1:(⟨c.v,qab t,sq,2,f0,f1,f2,f3,f4⟩:Cm).go s=(⟨c.v,qab t,sq,3,f0,f1,qw s.l 1,f3,f4⟩,s.add 1 1):=by
    simp only [Cm.go,Cm.step,Cm.act,Cm.told,Cm.put,Cm.behL];simp [Int.not_le.mpr hv];decide +kernel
   have e2:(⟨c,t,sq,3,v,0,0⟩:Km).step s=(⟨c,t,sq,4,qw s.l 1,0,0⟩,s.add 1 1):=by
    simp [Km.step,Km.live,Km.next,Km.told,Km.act,Km.pa]
   show KmR ((⟨c,t,sq,3,v,0,0⟩:Km).step s).1 ((⟨c.v,qab t,sq,2,f0,f1,f2,f3,f4⟩:Cm).go s).1∧_=((⟨c.v,qab t,sq,2,f0,f1,f2,f3,f4⟩:Cm).go s).2
   rw [e1,e2]
   exact ⟨⟨rfl,rfl,rfl,.inr ⟨by simp,by simp,rfl⟩,fun _=>hv,fun _=>rfl,fun _=>⟨rfl,rfl⟩,fun k=>absurd k (by simp)⟩,rfl⟩
  ·have hv:=h5 (by omega)
   have hq:=h6 (by omega)
   subst hq
   have e1:(⟨c.v,qab t,sq,3,f0,f1,f2,f3,f4⟩:Cm).go s=(⟨c.v,qab t,sq,4,f0,f1,f2,0,f4⟩,s.swap (qab t) (wu sq 1) (wu sq (wrap64 (f2+2)))):=by
    simp only [Cm.go,Cm.step,Cm.act,Cm.told,Cm.put,Cm.behL];simp [Int.not_le.mpr hv];decide +kernel
   have e2:(⟨c,t,sq,4,f2,0,0⟩:Km).step s=(⟨c,t,sq,5,f2,0,0⟩,s.swap (qab t) (wu sq 1) (wu sq (wrap64 (f2+2)))):=by
    simp [Km.step,Km.live,Km.next,Km.told,Km.act,Km.pa]
   show KmR ((⟨c,t,sq,4,f2,0,0⟩:Km).step s).1 ((⟨c.v,qab t,sq,3,f0,f1,f2,f3,f4⟩:Cm).go s).1∧_=((⟨c.v,qab t,sq,3,f0,f1,f2,f3,f4⟩:Cm).go s).2
   rw [e1,e2]
   exact ⟨⟨rfl,rfl,rfl,.inr ⟨by simp,by simp,rfl⟩,fun _=>hv,fun _=>rfl,fun _=>⟨rfl,rfl⟩,fun k=>absurd k (by simp)⟩,rfl⟩
  ·have hv:=h5 (by omega)
   have e1:(⟨c.v,qab t,sq,4,f0,f1,f2,f3,f4⟩:Cm).go s=(⟨c.v,qab t,sq,5,f0,f1,f2,f3,qw s.l (qab t)⟩,s.load (qab t)):=by
    simp only [Cm.go,Cm.step,Cm.act,Cm.told,Cm.put,Cm.behL];simp [Int.not_le.mpr hv];decide +kernel
   have e2:(⟨c,t,sq,5,v,0,0⟩:Km).step s=(⟨c,t,sq,0,v,ku (qw s.l (qab t)) - 2,0⟩,s.load (qab t)):=by
    simp [Km.step,Km.live,Km.next,Km.told,Km.act,Km.pa]
   show KmR ((⟨c,t,sq,5,v,0,0⟩:Km).step s).1 ((⟨c.v,qab t,sq,4,f0,f1,f2,f3,f4⟩:Cm).go s).1∧_=((⟨c.v,qab t,sq,4,f0,f1,f2,f3,f4⟩:Cm).go s).2
   rw [e1,e2]
   exact ⟨⟨rfl,rfl,rfl,.inl ⟨rfl,rfl⟩,fun k=>absurd k (by simp),fun k=>absurd k (by simp),fun k=>absurd rfl k,fun _=>.inr ⟨rfl,hv,rfl⟩⟩,rfl⟩
theorem KmR.told {x:Km} {y:Cm} (h:KmR x y):y.err=x.e∧y.ver=(if x.e≠0∨x.line≠0 then 0 else x.version):=by
 unfold Cm.err Cm.ver
 rcases h.ln with ⟨a,e⟩ | ⟨a,b,e⟩
 ·rw [qf e,qf e]
  rcases h.e5 a with ⟨k1,k2,k3⟩ | ⟨k1,k2,k3⟩
  ·rw [qf k2,qf k2,k1,qf (.inl (by decide))];exact ⟨rfl,rfl⟩
  ·rw [qd (by omega),qd (by omega),k1,qd (by omega)];exact ⟨rfl,k3.symm⟩
 ·rw [qd (by omega),qd (by omega),(h.e0 (by omega)).1,qf (.inr (by omega))];exact ⟨rfl,rfl⟩
end Go.Proofs.YthokjbikomjhgaaGreatDoor.Kc_u
