/- Texts that this proof leans on, one behind the other: Row. -/
import Derived.Test.YtjhefbenmhmbcaaDoorQaa
import Derived.Deep.AppendLies
set_option linter.unusedVariables false
set_option linter.unusedSimpArgs false
set_option maxRecDepth 100000
set_option maxHeartbeats 12800000
namespace Go.Proofs.YtjhefbenmhmbcaaDoor.Ar
open Go.RowKit
section
variable {w w':World} {B:Nat} {E:TypeId} {sz n:Nat} {v:Value} {xs:List Value} {S:List Nat}
theorem row_fr (h:w.ownsRow B E sz v n xs) (f:Fr S w w') (hS:∀ g,v.ownBlock=some g→g∉S):w'.ownsRow B E sz v n xs:=by
 obtain ⟨h1,h2⟩:=h
 refine ⟨h1,h2.imp id ?_⟩
 rintro ⟨g,cap,cur,rfl,hb,hh,r⟩
 exact ⟨g,cap,cur,rfl,hb,f.heap hh (hS g rfl),r⟩
theorem row_keeps (h:w.ownsRow B E sz v n xs) (f:Fr [] w w'):w'.ownsRow B E sz v n xs:=row_fr h f (by simp)
theorem fr_grown (h:w.grownBy w' v.ownBlock):Fr v.ownBlock.toList w w' :=
 ⟨h.os,h.tape,h.output,h.size,fun k hk hn=>h.block k hk (fun e=>hn (by rw [← e];simp))⟩
end
theorem row_cell {w:World} {B:Nat} {E:TypeId} {sz n:Nat} {v:Value} {xs:List Value} (h:w.ownsRow B E sz v n xs) :
  ∃ a cap,v = .slice a n cap∧n≤maxLen∧(n=0∨∃ g,a=some ⟨g,0,none⟩∧g<w.heap.size∧∀ j x,xs[j]? = some x→w.cell? ⟨g,j,none⟩=some x):=by
 obtain ⟨h1,h2⟩:=h
 rcases h2 with ⟨rfl,rfl⟩ | ⟨g,cap,cur,rfl,-,hh,hc1,hc2,hs,ht⟩
 ·exact ⟨none,0,rfl,by simp [maxLen],.inl rfl⟩
 ·refine ⟨_,_,rfl,by omega,.inr ⟨g,rfl,(Array.getElem?_eq_some_iff.1 hh).1,fun j x hx=>?_⟩⟩
  rw [cell_of_row _ _ _ _ _ _ hh]
  have hj:j<n * sz:=by rw [← h1];exact (List.getElem?_eq_some_iff.1 hx).1
  rw [← ht,List.getElem?_take_of_lt hj] at hx
  simpa using hx
end Go.Proofs.YtjhefbenmhmbcaaDoor.Ar
