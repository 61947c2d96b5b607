/- Parts. -/
import Derived.Test.YtleclbldlladmaaGreatVaa
import Derived.Test.YtleclbldlladmaaGreatVbg
import Derived.Maps.OwnSet
set_option linter.unusedVariables false
set_option linter.unusedSimpArgs false
set_option maxRecDepth 100000
set_option maxHeartbeats 12800000
namespace Go.Proofs.YtleclbldlladmaaGreat.Ar
open Go.RowKit Go.Maps
def ik (k:Nat):Lit:=.int .i64 k
def cnt (D:DataW Value):Nat->Nat
 | 0=>0
 | n+1=>cnt D n+if has D (ik n) then 1 else 0
end Go.Proofs.YtleclbldlladmaaGreat.Ar
namespace Go.Proofs.YtleclbldlladmaaGreat.Ch
open Go.RowKit Ar Mx Vw
def ckF (f:Int->Int) (n:Nat) (a:Int):Hd×List Ce:=(⟨a,f a,f (a+1),f (a+2),f (a+3),f (a+4),f (a+5),f (a+6)⟩,(List.range n).map fun (i:Nat)=>(⟨f (a+7+3 * i),f (a+7+3 * i+1),f (a+7+3 * i+2)⟩:Ce))
def atU (w:Int):Int:=w % 18446744073709551616 / 2
def q7m (f:Int->Int) (len n:Nat):Nat->Int->List Int->List Int
 | 0,_,acc=>acc
 | k+1,a,acc=>if a=0\/Z9 len n a=false\/a∈acc then acc else q7m f len n k (atU (f (a+2))) (acc++[a])
def allF (f:Int->Int) (len n:Nat) (t:Int):List Int:=q7m f len n (len+1) (atU (f (9+t))) []
def qaz (x:Hd×List Ce) (r:List (Hd×List Ce)):Bool :=
 match r with
 | []=>(Wu x.2).all fun it=>decide (x.1.mn<=it.k)
 | y :: _=>decide (x.1.mn<y.1.mn) && (Wu x.2).all fun it=>decide (x.1.mn<=it.k) && decide (it.k<y.1.mn)
def Jf:List (Hd×List Ce)->Bool
 | []=>true
 | x :: r=>qaz x r && Jf r
def q61:List (Hd×List Ce)->Int
 | []=>0
 | [x]=>x.1.nx
 | _ :: y :: r=>q61 (y :: r)
def isL (L:List (Hd×List Ce)):Bool :=
 match L with
 | []=>false
 | x :: _=>decide (x.1.mn=0) && decide (atU (q61 L)=0) && Jf L
def ofL (L:List (Hd×List Ce)) (key:Int):Int:=L.foldl (fun at_ x=>if x.1.mn<=key then x.1.at_ else at_) 0
theorem Kh:∀ (m:Nat) (l:List Int),l.Nodup->(∀ x∈l,0<=x/\x<m)->l.length<=m
 | 0,l,_,h=>by
  cases l with
  | nil=>simp
  | cons x r=>have:=h x Lc;omega
 | m+1,l,hn,h=>by
  have h1:=Kh m (l.erase (m:Int)) (hn.erase _) (fun x hx=>by
   rw [hn.mem_erase_iff] at hx
   have:=h x hx.2
   have:=hx.1
   omega)
  rw [List.length_erase] at h1
  split at h1 <;> omega
structure Told (len n:Nat) (acc:List Int):Prop where
 nd:acc.Nodup
 at_:∀ x∈acc,Z9 len n x=true
theorem Told.nil (len n:Nat):Told len n []:=⟨List.nodup_nil,by simp⟩
theorem Told.le {len n:Nat} {acc:List Int} (h:Told len n acc):acc.length<=len :=
 Kh len acc h.nd (fun x hx=>by have:=qds (h.at_ x hx);omega)
theorem Told.add {len n:Nat} {acc:List Int} (h:Told len n acc) {a:Int} (h1:Z9 len n a=true) (h2:a∉acc):Told len n (acc++[a]) :=
 ⟨by rw [List.nodup_append];exact ⟨h.nd,by simp,fun x hx y hy=>by simp at hy;subst hy;rintro rfl;exact h2 hx⟩,fun x hx=>by
  rcases List.mem_append.1 hx with h3 | h3
  ·exact h.at_ x h3
  ·simp at h3;subst h3;exact h1⟩
end Go.Proofs.YtleclbldlladmaaGreat.Ch
