/- Parts. -/
import Derived.Test.YtaccfepnhmgagaaGreatDoorVaa
import Derived.Test.YtaccfepnhmgagaaGreatDoorVbg
import Derived.Maps.OwnSet
set_option linter.unusedVariables false
set_option linter.unusedSimpArgs false
set_option maxRecDepth 100000
set_option maxHeartbeats 12800000
namespace Go.Proofs.YtaccfepnhmgagaaGreatDoor.Ar
open Go.RowKit Go.Maps
def ik (k:Nat):Lit:=.int .i64 k
def cnt (D:DataW Value):Nat->Nat
 | 0=>0
 | n+1=>cnt D n+if has D (ik n) then 1 else 0
end Go.Proofs.YtaccfepnhmgagaaGreatDoor.Ar
namespace Go.Proofs.YtaccfepnhmgagaaGreatDoor.Ch
open Go.RowKit Ar Mx Vw
def atU (w:Int):Int:=w % 18446744073709551616 / 2
def q66 (f:Int->Int) (len n:Nat):Nat->Int->List Int->List Int
 | 0,_,acc=>acc
 | k+1,a,acc=>if a=0\/Za len n a=false\/a∈acc then acc else q66 f len n k (atU (f (a+2))) (acc++[a])
def allF (f:Int->Int) (len n:Nat) (t:Int):List Int:=q66 f len n (len+1) (atU (f (9+t))) []
theorem Jz:∀ (m:Nat) (l:List Int),l.Nodup->(∀ x∈l,0<=x/\x<m)->l.length<=m
 | 0,l,_,h=>by
  cases l with
  | nil=>simp
  | cons x r=>have:=h x Lj;omega
 | m+1,l,hn,h=>by
  have h1:=Jz m (l.erase (m:Int)) (hn.erase _) (fun x hx=>by
   rw [hn.mem_erase_iff] at hx
   have:=h x hx.2
   have:=hx.1
   omega)
  rw [List.length_erase] at h1
  split at h1 <;> omega
structure Told (len n:Nat) (acc:List Int):Prop where
 nd:acc.Nodup
 at_:∀ x∈acc,Za len n x=true
theorem Told.nil (len n:Nat):Told len n []:=⟨List.nodup_nil,by simp⟩
theorem Told.le {len n:Nat} {acc:List Int} (h:Told len n acc):acc.length<=len :=
 Jz len acc h.nd (fun x hx=>by have:=qe6 (h.at_ x hx);omega)
theorem Told.add {len n:Nat} {acc:List Int} (h:Told len n acc) {a:Int} (h1:Za len n a=true) (h2:a∉acc):Told len n (acc++[a]) :=
 ⟨by rw [List.nodup_append];exact ⟨h.nd,by simp,fun x hx y hy=>by simp at hy;subst hy;rintro rfl;exact h2 hx⟩,fun x hx=>by
  rcases List.mem_append.1 hx with h3 | h3
  ·exact h.at_ x h3
  ·simp at h3;subst h3;exact h1⟩
end Go.Proofs.YtaccfepnhmgagaaGreatDoor.Ch
