/- Texts that this proof leans on, one behind the other: Dr. -/
import Derived.Test.YtjhefbenmhmbcaaDoorQaa
import Derived.Sort.Grow
set_option linter.unusedVariables false
set_option linter.unusedSimpArgs false
set_option maxRecDepth 100000
set_option maxHeartbeats 12800000
namespace Go.Proofs.YtjhefbenmhmbcaaDoor.Dr
open Go.RowKit
structure Fr (S:List Nat) (w w':World):Prop where
 os:w'.os=w.os
 tape:w'.tape=w.tape
 output:w'.output=w.output
 size:w.heap.size≤w'.heap.size
 block:∀ k,k<w.heap.size→k∉S→w'.heap[k]? = w.heap[k]?
 drawn:w.drawn≤w'.drawn
theorem Fr.refl (S:List Nat) (w:World):Fr S w w:=⟨rfl,rfl,rfl,Nat.le_refl _,fun _ _ _=>rfl,Nat.le_refl _⟩
theorem Fr.trans {S:List Nat} {a b c:World} (h:Fr S a b) (k:Fr S b c):Fr S a c :=
 ⟨k.os.trans h.os,k.tape.trans h.tape,k.output.trans h.output,Nat.le_trans h.size k.size,fun i hi hn=>(k.block i (Nat.lt_of_lt_of_le hi h.size) hn).trans (h.block i hi hn),Nat.le_trans h.drawn k.drawn⟩
theorem Fr.alloc {S:List Nat} {a w:World} (h:Fr S a w) (o:Obj):Fr S a (w.alloc o) :=
 h.trans ⟨rfl,rfl,rfl,by simp,fun k hk _=>Below.heap_alloc w o k hk,Nat.le_refl _⟩
theorem Fr.grow {w w':World} (h:Fr [] w w'):∃ q os,w'=Go.Sort.grow (w.drewN q) os:=by
 obtain ⟨heap,tape,drawn,os,output⟩:=w
 obtain ⟨heap',tape',drawn',os',output'⟩:=w'
 obtain ⟨h1,h2,h3,h4,h5,h6⟩:=h
 simp only at h1 h2 h3 h4 h5 h6
 subst h1;subst h2;subst h3
 refine ⟨drawn' - drawn,heap'.extract heap.size heap'.size,?_⟩
 unfold Go.Sort.grow World.drewN
 simp only [World.mk.injEq,and_true,true_and]
 refine ⟨?_,by omega⟩
 apply Array.ext'
 apply List.ext_getElem?
 intro i
 rw [Array.toList_append,Array.toList_extract]
 by_cases hi:i<heap.size
 ·have:=h5 i hi (by simp)
  rw [List.getElem?_append_left (by simpa using hi)]
  simpa using this
 ·rw [List.getElem?_append_right (by simpa using hi)]
  simp only [List.extract_eq_take_drop,Array.length_toList,List.getElem?_take,List.getElem?_drop]
  split
  ·congr 1;omega
  ·rw [List.getElem?_eq_none];simp;omega
def In (w:World):Type:={ x:World // Fr [] w x }
instance (w:World):Nonempty (In w):=⟨⟨w,Fr.refl _ _⟩⟩
section
variable {P:Program} {ops:Array Oper} {Q:Exit→Act→World→Prop} {md:Region.Mode} {w0:World} {S:List Nat}
end
section
variable {P:Program} {l:List Oper} {Q:Exit→Act→World→Prop} {w0:World} {S:List Nat}
end
end Go.Proofs.YtjhefbenmhmbcaaDoor.Dr
