/- Texts that this proof leans on, one behind the other: Seq. -/
import Derived.Test.YtilipdnchflkhaaDoorGaa
import Derived.Test.YtilipdnchflkhaaDoorGac
import Derived.Deep.AppendLies
import Derived.Deep.Upon
set_option linter.unusedVariables false
set_option linter.unusedSimpArgs false
set_option maxRecDepth 100000
set_option maxHeartbeats 12800000
namespace Go.Proofs.YtilipdnchflkhaaDoor.Mx
open Go.RowKit Go.Proofs.YtilipdnchflkhaaDoor.Ar
section
variable {α:Type} {f:α→List Value} {sz:Nat}
structure Lays (f:α→List Value) (sz:Nat):Prop where
 len:∀ x,(f x).length=sz
 one:∀ x,∀ u∈f x,u.oneCell'=true
 pos:0<sz
theorem Lays.flat (h:Lays f sz) (xs:List α):(xs.flatMap f).length=xs.length * sz:=by
 induction xs with
 | nil=>simp
 | cons x xs ih=>rw [List.flatMap_cons,List.length_append,ih,h.len,List.length_cons,Nat.succ_mul];omega
theorem Lays.at (h:Lays f sz) {xs:List α} {i j:Nat} {x:α} (hi:xs[i]? = some x) (hj:j<sz):(xs.flatMap f)[i * sz+j]? = (f x)[j]?:=by
 induction xs generalizing i with
 | nil=>simp at hi
 | cons y xs ih =>
  rw [List.flatMap_cons]
  cases i with
  | zero =>
   simp at hi;subst hi
   rw [Nat.zero_mul,Nat.zero_add,List.getElem?_append_left (by rw [h.len];exact hj)]
  | succ i =>
   rw [List.getElem?_append_right (by rw [h.len,Nat.succ_mul];omega),h.len,Nat.succ_mul,show i * sz+sz+j - sz=i * sz+j by omega]
   exact ih (by simpa using hi)
def Sq (f:α→List Value) (w:World) (v:Value) (xs:List α):Prop:=∃ a cap,v = .slice a xs.length cap∧xs.length≤cap∧cap≤maxLen ∧
 (xs.length=0∨∃ g off,a=some ⟨g,off,none⟩∧g<w.heap.size∧∀ j u,(xs.flatMap f)[j]? = some u→w.cell? ⟨g,off+j,none⟩=some u)
theorem Sq.own {w:World} {B:Nat} {E:TypeId} {v:Value} {xs:List α} (h:w.ownsRow B E sz v xs.length (xs.flatMap f)):Sq f w v xs:=by
 obtain ⟨h1,h2⟩:=h
 rcases h2 with ⟨rfl,e0⟩ | ⟨g,cap,cur,rfl,-,hh,hc1,hc2,hs,ht⟩
 ·have h0:xs.length=0:=by first | exact e0 | omega
  exact ⟨none,0,by rw [h0],by omega,by simp [maxLen],.inl h0⟩
 ·refine ⟨_,cap,rfl,hc1,hc2,.inr ⟨g,0,rfl,(Array.getElem?_eq_some_iff.1 hh).1,fun j u hu=>?_⟩⟩
  rw [Nat.zero_add,cell_of_row _ _ _ _ _ _ hh]
  have hj:j<xs.length * sz:=by rw [← h1];exact (List.getElem?_eq_some_iff.1 hu).1
  rw [← ht,List.getElem?_take_of_lt hj] at hu
  simpa using hu
theorem addr_add (b o j:Nat):(⟨b,o,none⟩:Addr).add j=⟨b,o+j,none⟩:=by
 unfold Addr.add;split
 ·rename_i h;subst h;rfl
 ·rfl
end
end Go.Proofs.YtilipdnchflkhaaDoor.Mx
