/- Texts that this proof leans on, one behind the other: OkLook. -/
import Derived.Test.YtilipdnchflkhaaDoorGaa
import Derived.Test.YtilipdnchflkhaaDoorGab
import Derived.Test.YtilipdnchflkhaaDoorGac
import Derived.Test.YtilipdnchflkhaaDoorGad
import Derived.Test.YtilipdnchflkhaaDoorGae
import Derived.Test.YtilipdnchflkhaaDoorGah
import Derived.Test.YtilipdnchflkhaaDoorGai
import Derived.Test.YtilipdnchflkhaaDoorGam
import Derived.Test.YtilipdnchflkhaaDoorGap
import Derived.DeepKeys4
import Derived.WideKeyPair
set_option linter.unusedVariables false
set_option linter.unusedSimpArgs false
set_option maxRecDepth 100000
set_option maxHeartbeats 12800000
namespace Go.Proofs.YtilipdnchflkhaaDoor.Mx
open Go.RowKit Go.Proofs.YtilipdnchflkhaaDoor.Ar Go.Proofs.YtilipdnchflkhaaDoor.Ref
structure LokOk (x:Lok):Prop where
 c:x.c.Ok
 i0:0≤x.i
 i1:x.i≤16
 len:(x.l.length:Int)≤x.i
 one:x.line=1→x.l=[]
 two:2≤x.line→x.i<x.count
 cnt:x.count≤x.c.c
theorem LokOk.new {c:Cf} (hc:c.Ok) (chunk lo hi most:Int):LokOk (Lok.new c chunk lo hi most):=by
 have h1:=hc.c2;have h2:=hc.t1
 exact ⟨hc,by simp [Lok.new],by simp [Lok.new],by simp [Lok.new],fun _=>rfl,by simp [Lok.new],by simp [Lok.new];omega⟩
theorem insK_length (l:List It) (x:It):(insK l x).length=l.length+1:=by
 induction l with
 | nil=>rfl
 | cons y r ih=>unfold insK;split <;> simp [ih]
theorem putK_length (l:List It) (x:It):(putK l x).length≤l.length+1:=by
 unfold putK;split
 ·simp
 ·rw [insK_length];omega
theorem lok_on_ok {x:Lok} (hc:x.c.Ok) (h1:-1≤x.i) (h2:x.i<x.count∨x.i = -1) (h3:(x.l.length:Int)≤x.i+1) (h4:x.count≤x.c.c):LokOk x.on:=by
 have:=hc.c16
 unfold Lok.on
 split
 ·exact ⟨hc,by simp only;omega,by simp only;omega,by simp only;omega,by simp,by simp,h4⟩
 ·exact ⟨hc,by simp only;omega,by simp only;omega,by simp only;omega,by simp,by simp only;intro;omega,h4⟩
theorem lok_seven_ok {x:Lok} (hc:x.c.Ok) (h1:0≤x.i) (h2:x.i<x.count) (h3:(x.l.length:Int)≤x.i) (h4:x.count≤x.c.c):LokOk x.seven:=by
 have:=hc.c16
 unfold Lok.seven
 split
 ·exact lok_on_ok hc (by simp only;omega) (.inl h2) (by simp only;omega) h4
 ·exact ⟨hc,h1,by simp only;omega,h3,by simp,fun _=>h2,h4⟩
theorem lok_next_ok {x:Lok} (h:LokOk x) (v:Int) (hl:x.live=true):LokOk (x.next v):=by
 obtain ⟨hc,i0,i1,len,one,two,cnt⟩:=h
 have h16:=hc.c16
 have hc2:=hc.c2
 have ht1:=hc.t1
 unfold Lok.live at hl
 simp only [Bool.and_eq_true,decide_eq_true_eq] at hl
 unfold Lok.next
 split
 ·rename_i e
  have hl0:=one e
  exact lok_on_ok hc (by simp only;omega) (.inr rfl) (by simp only [hl0];simp) (by simp only;omega)
 ·have h2:=two (by omega)
  split
  ·split
   ·exact lok_on_ok hc (by simp only;omega) (.inl h2) (by simp only;omega) cnt
   ·exact ⟨hc,i0,i1,len,by simp,fun _=>h2,cnt⟩
  ·split
   ·split
    ·exact lok_on_ok hc (by simp only;omega) (.inl h2) (by simp only;omega) cnt
    ·split
     ·exact ⟨hc,i0,i1,len,by simp,fun _=>h2,cnt⟩
     ·exact lok_seven_ok hc i0 h2 len cnt
   ·split
    ·exact ⟨hc,i0,i1,len,by simp,fun _=>h2,cnt⟩
    ·split
     ·exact ⟨hc,i0,i1,len,by simp,fun _=>h2,cnt⟩
     ·split
      ·split
       ·exact lok_on_ok hc (by simp only;omega) (.inl h2) (by simp only;omega) cnt
       ·exact lok_seven_ok hc i0 h2 len cnt
      ·exact lok_on_ok hc (by simp only;omega) (.inl h2) (by have:=putK_length x.l ⟨x.k,verW x.s,v⟩;simp only;omega) cnt
theorem LokOk.step {x:Lok} (h:LokOk x) (s:St):LokOk (x.step s).1:=by
 unfold Lok.step
 split
 ·rename_i hl;exact lok_next_ok h _ hl
 ·exact h
end Go.Proofs.YtilipdnchflkhaaDoor.Mx
