/- Parts. -/
import Derived.Test.YtppajakfaomkaaaGreatDoorYaa
import Derived.Deep.AppendLies
set_option linter.unusedVariables false
set_option linter.unusedSimpArgs false
set_option maxRecDepth 100000
set_option maxHeartbeats 12800000
namespace Go.Proofs.YtppajakfaomkaaaGreatDoor.Ar
open Go.RowKit
section
variable {w w':World} {B:Nat} {E:TypeId} {sz n:Nat} {v:Value} {xs:List Value} {S:List Nat}
theorem kx (h:w.ownsRow B E sz v n xs) (f:Fr S w w') (hS:∀ g,v.ownBlock=some g->g∉S):w'.ownsRow B E sz v n xs:=by
 obtain ⟨h1,h2⟩:=h
 refine ⟨h1,h2.imp id ?_⟩
 rintro ⟨g,cap,cur,rfl,hb,hh,r⟩
 exact ⟨g,cap,cur,rfl,hb,f.heap hh (hS g rfl),r⟩
theorem qm (h:w.ownsRow B E sz v n xs) (f:Fr [] w w'):w'.ownsRow B E sz v n xs:=kx h f (by simp)
theorem q1e (h:w.grownBy w' v.ownBlock):Fr v.ownBlock.toList w w' :=
 ⟨h.os,h.tape,h.output,h.size,fun k hk hn=>h.block k hk (fun e=>hn (by rw [<- e];simp))⟩
theorem jd (h:w.ownsRow B E sz v n xs) {b:Nat} {cs:Array Value} {T:TypeId} {fr:Nat×Nat} (hb:w.heap[b]? = some (.cells cs T fr)) (hT:E≠T):b∉v.ownBlock.toList:=by
 rcases h.2 with ⟨rfl,_⟩ | ⟨g,cap,cur,rfl,_,hh,_⟩
 ·simp [Value.ownBlock]
 ·simp only [Value.ownBlock,Option.toList_some,List.mem_singleton]
  rintro rfl
  rw [hh] at hb
  simp only [Option.some.injEq,Obj.cells.injEq] at hb
  exact hT hb.2.1
theorem qbv (h:w.ownsRow B E sz v n xs) {b:Nat} {es:Array MapEntry} {k:Nat} (hb:w.heap[b]? = some (.map es k)):b∉v.ownBlock.toList:=by
 rcases h.2 with ⟨rfl,_⟩ | ⟨g,cap,cur,rfl,_,hh,_⟩
 ·simp [Value.ownBlock]
 ·simp only [Value.ownBlock,Option.toList_some,List.mem_singleton]
  rintro rfl
  rw [hh] at hb
  cases hb
theorem z8 (h:w.ownsRow B E sz v n xs):∀ g,g∈v.ownBlock.toList->B<=g:=by
 intro g hg
 exact (h.lt g (by simpa using hg)).1
theorem Z5 {C:Nat} (h:w.ownsRow B E sz v n xs) (hC:C<=B):w.ownsRow C E sz v n xs:=by
 obtain ⟨h1,h2⟩:=h
 refine ⟨h1,h2.imp id ?_⟩
 rintro ⟨g,cap,cur,rfl,hb,r⟩
 exact ⟨g,cap,cur,rfl,qh hC hb,r⟩
end
theorem Z4 {w:World} {B:Nat} {E:TypeId} {sz n:Nat} {v:Value} {xs:List Value} (h:w.ownsRow B E sz v n xs) :
  ∃ a cap,v = .slice a n cap/\n<=maxLen/\(n=0\/∃ g,a=some ⟨g,0,none⟩/\g<w.heap.size/\∀ j x,xs[j]? = some x->w.cell? ⟨g,j,none⟩=some x):=by
 obtain ⟨h1,h2⟩:=h
 rcases h2 with ⟨rfl,rfl⟩ | ⟨g,cap,cur,rfl,-,hh,hc1,hc2,hs,ht⟩
 ·exact ⟨none,0,rfl,by simp [maxLen],.inl rfl⟩
 ·refine ⟨_,_,rfl,by omega,.inr ⟨g,rfl,(Array.getElem?_eq_some_iff.1 hh).1,fun j x hx=>?_⟩⟩
  rw [cell_of_row _ _ _ _ _ _ hh]
  have hj:j<n * sz:=by rw [<- h1];exact (List.getElem?_eq_some_iff.1 hx).1
  rw [<- ht,List.getElem?_take_of_lt hj] at hx
  simpa using hx
end Go.Proofs.YtppajakfaomkaaaGreatDoor.Ar
