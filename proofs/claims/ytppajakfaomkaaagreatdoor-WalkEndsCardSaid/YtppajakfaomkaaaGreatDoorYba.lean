/- Parts. -/
import Derived.Test.YtppajakfaomkaaaGreatDoorYaa
import Derived.Test.YtppajakfaomkaaaGreatDoorYaq
import Derived.Test.YtppajakfaomkaaaGreatDoorYaz
set_option linter.unusedVariables false
set_option linter.unusedSimpArgs false
set_option maxRecDepth 100000
set_option maxHeartbeats 12800000
namespace Go.Proofs.YtppajakfaomkaaaGreatDoor.Ch
open Go.RowKit Ar Mx Vw
def ckF (f:Int->Int) (n:Nat) (a:Int):Hd×List Ce:=(⟨a,f a,f (a+1),f (a+2),f (a+3),f (a+4),f (a+5),f (a+6)⟩,(List.range n).map fun (i:Nat)=>(⟨f (a+7+3 * i),f (a+7+3 * i+1),f (a+7+3 * i+2)⟩:Ce))
theorem ckF_peek (l:List Int) (n:Nat) (a:Int):ckF (qq l) n a=(qch l a,cellsOf l a n):=rfl
def atU (w:Int):Int:=w % 18446744073709551616 / 2
def q5w (f:Int->Int) (len n:Nat):Nat->Int->List Int->List Int
 | 0,_,acc=>acc
 | k+1,a,acc=>if a=0\/Wv len n a=false\/a∈acc then acc else q5w f len n k (atU (f (a+2))) (acc++[a])
def qdg (f:Int->Int) (len n:Nat) (t:Int):List Int:=q5w f len n (len+1) (atU (f (9+t))) []
def jq (f:Int->Int) (len n:Nat) (t:Int):List (Hd×List Ce):=(qdg f len n t).map (ckF f n)
def qa5 (x:Hd×List Ce) (r:List (Hd×List Ce)):Bool :=
 match r with
 | []=>(Vu x.2).all fun it=>decide (x.1.mn<=it.k)
 | y :: _=>decide (x.1.mn<y.1.mn) && (Vu x.2).all fun it=>decide (x.1.mn<=it.k) && decide (it.k<y.1.mn)
def q27:List (Hd×List Ce)->Bool
 | []=>true
 | x :: r=>qa5 x r && q27 r
def q9z:List (Hd×List Ce)->Int
 | []=>0
 | [x]=>x.1.nx
 | _ :: y :: r=>q9z (y :: r)
def isL (L:List (Hd×List Ce)):Bool :=
 match L with
 | []=>false
 | x :: _=>decide (x.1.mn=0) && decide (atU (q9z L)=0) && q27 L
def ofL (L:List (Hd×List Ce)) (key:Int):Int:=L.foldl (fun at_ x=>if x.1.mn<=key then x.1.at_ else at_) 0
theorem S5:∀ (m:Nat) (l:List Int),l.Nodup->(∀ x∈l,0<=x/\x<m)->l.length<=m
 | 0,l,_,h=>by
  cases l with
  | nil=>simp
  | cons x r=>have:=h x (by simp);omega
 | m+1,l,hn,h=>by
  have h1:=S5 m (l.erase (m:Int)) (hn.erase _) (fun x hx=>by
   rw [hn.mem_erase_iff] at hx
   have:=h x hx.2
   have:=hx.1
   omega)
  rw [List.length_erase] at h1
  split at h1 <;> omega
structure Told (len n:Nat) (acc:List Int):Prop where
 nd:acc.Nodup
 at_:∀ x∈acc,Wv len n x=true
theorem Told.nil (len n:Nat):Told len n []:=⟨List.nodup_nil,by simp⟩
theorem Told.le {len n:Nat} {acc:List Int} (h:Told len n acc):acc.length<=len :=
 S5 len acc h.nd (fun x hx=>by have:=hdBd (h.at_ x hx);omega)
theorem Told.add {len n:Nat} {acc:List Int} (h:Told len n acc) {a:Int} (h1:Wv len n a=true) (h2:a∉acc):Told len n (acc++[a]) :=
 ⟨by rw [List.nodup_append];exact ⟨h.nd,by simp,fun x hx y hy=>by simp at hy;subst hy;rintro rfl;exact h2 hx⟩,fun x hx=>by
  rcases List.mem_append.1 hx with h3 | h3
  ·exact h.at_ x h3
  ·simp at h3;subst h3;exact h1⟩
theorem W6 {f:Int->Int} {len n:Nat}:∀ (k:Nat) (a:Int) (acc:List Int),Told len n acc->Told len n (q5w f len n k a acc)
 | 0,_,_,h=>h
 | k+1,a,acc,h=>by
  unfold q5w
  split
  ·exact h
  ·rename_i hc
   exact W6 k _ _ (h.add (by cases ht:Wv len n a with | true=>rfl | false=>exact absurd (.inr (.inl ht)) hc) (fun hm=>hc (.inr (.inr hm))))
theorem allF_told (f:Int->Int) (len n:Nat) (t:Int):Told len n (qdg f len n t):=W6 _ _ _ (Told.nil len n)
end Go.Proofs.YtppajakfaomkaaaGreatDoor.Ch
