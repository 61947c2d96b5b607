/- Parts. -/
import Derived.Test.YtppajakfaomkaaaGreatDoorYam
import Derived.Laws.OwnMore
set_option linter.unusedVariables false
set_option linter.unusedSimpArgs false
set_option maxRecDepth 100000
set_option maxHeartbeats 12800000
namespace Go.Proofs.YtppajakfaomkaaaGreatDoor.Mx
open Go.RowKit Ar
section
variable {α:Type} {f:α->List Value} {sz:Nat}
def Xo (ms:List α) (z:α) (i:Nat):List α:=ms.take i++List.replicate (ms.length - i) z
theorem q6f (ms:List α) (z:α):Xo ms z 0=List.replicate ms.length z:=by simp [Xo]
theorem q7w (ms:List α) (z:α) {i:Nat} (h:i<=ms.length):(Xo ms z i).length=ms.length:=by simp [Xo];omega
theorem Re (ms:List α) (z:α) {i:Nat} (h:i<ms.length):Xo ms z i=ms.take i++z :: List.replicate (ms.length - (i+1)) z:=by
 unfold Xo
 rw [show ms.length - i=(ms.length - (i+1))+1 by omega,List.replicate_succ]
theorem q8f {ms:List α} (z:α) {i:Nat} {v:α} (h:ms[i]? = some v):(Xo ms z i).set i v=Xo ms z (i+1):=by
 have hl:=(List.getElem?_eq_some_iff.1 h).1
 rw [Re ms z hl]
 unfold Xo
 rw [List.take_add_one,h,Option.toList_some,List.append_assoc,List.set_append_right _ _ (by rw [List.length_take];omega),show i - (ms.take i).length=0 by rw [List.length_take];omega]
 rfl
theorem qbt {ms:List α} (z:α) {i:Nat} (h:i<ms.length):(Xo ms z i)[i]? = some z:=by
 rw [Re ms z h,List.getElem?_append_right (by rw [List.length_take];omega),show i - (ms.take i).length=0 by rw [List.length_take];omega]
 rfl
theorem q4v {ms:List α} (z:α) {i j:Nat} (h:j<i) (hj:j<ms.length):(Xo ms z i)[j]? = ms[j]?:=by
 unfold Xo
 rw [List.getElem?_append_left (by simp;omega),List.getElem?_take_of_lt h]
theorem q4u (hL:Lays f sz) (z:α) (zs:Array Value) (hz:zs.toList=f z) (n:Nat):(madeCells zs (n * sz)).toList=(List.replicate n z).flatMap f:=by
 have hzs:zs.size=sz:=by rw [<- Array.length_toList,hz,hL.len]
 apply List.ext_getElem?
 intro k
 by_cases hk:k<n * sz
 ·have h1:k / sz<n:=(Nat.div_lt_iff_lt_mul hL.pos).2 hk
  have h2:k % sz<sz:=Nat.mod_lt _ hL.pos
  have h3:k=(k / sz) * sz+k % sz:=by rw [Nat.mul_comm];exact (Nat.div_add_mod k sz).symm
  have e:((List.replicate n z).flatMap f)[k]? = (f z)[k % sz]?:=by
   have:=hL.at (xs:=List.replicate n z) (i:=k / sz) (j:=k % sz) (x:=z) (by rw [List.getElem?_replicate];simp [h1]) h2
   rw [<- h3] at this;exact this
  rw [e,<- hz]
  simp only [madeCells,Array.toList_map,Array.toList_range,List.getElem?_map,List.getElem?_range hk,Option.map_some,hzs]
  rw [Array.getElem?_toList,getElem!_pos zs (k % sz) (by rw [hzs];exact h2)]
  rw [Array.getElem?_eq_getElem]
 ·rw [List.getElem?_eq_none (by simp [madeCells];omega),List.getElem?_eq_none (by rw [hL.flat];simp;omega)]
theorem Tx {P:Program} {w:World} {ops:Array Oper} {rest:List Oper} {o:Oper} {a:Act} {Q:Exit->Act->World->Prop} (hL:Lays f sz) (hg:o.guard=none) (l c:Operand) (t:TypeId) (hop:o.op=Op.makeSlice t l c)
  {E:TypeId} {z:Value} {bytes:Nat} (ht:P.underlying t=some (.slice E)) (hi:(P.info? E).map (fun i=>(i.zero,i.size,i.bytes))=some (some z,sz,bytes)) (z0:α) (hz:z.cells.toList=f z0)
  (n:Nat) (hl:a.eval l = .int .i64 (n:Int)) (hc:a.eval c = .int .i64 (n:Int)) (hn:n<=1000000) (hb:bytes<=1000)
  (hK:∀ w',Ob w' w.heap.size E ((List.replicate n z0).flatMap f).toArray->Fr [] w w'->wpList P ops Q rest (a.put o.dst (.slice (some ⟨w.heap.size,0,none⟩) n n)) w'):wpList P ops Q (o :: rest) a w:=by
 obtain ⟨i,hi0,hz0,hs0,hb0⟩:=info_parts hi
 refine wpList_make_full w hg l c t hop 0 E i z sz ht hi0 hz0 hs0 .i64 .i64 _ _ n hl hc rfl rfl (by rw [hb0];have:=Nat.mul_le_mul hb hn;omega) (by unfold maxLen;omega) (Nat.zero_le _) fun w' hown hgr=>?_
 refine hK w' ?_ (Fr.grown hgr)
 obtain ⟨-,hown⟩:=hown
 rcases hown with ⟨e1,-⟩ | ⟨g,cap,cur,e1,-,hh,hc1,hc2,hs,ht2⟩
 ·simp at e1
 simp only [Value.slice.injEq,Option.some.injEq,Addr.mk.injEq] at e1
 obtain ⟨⟨rfl,-⟩,-,rfl⟩:=e1
 rw [q4u hL z0 _ hz,List.take_of_length_le (by simp;omega)] at ht2
 have:cur=((List.replicate n z0).flatMap f).toArray:=by rw [<- ht2]
 rw [this] at hh
 exact hh
theorem U7 (hL:Lays f sz):∀ {xs:List α} {i j:Nat} {x x':α} {u:Value},xs[i]? = some x->j<sz->f x'=(f x).set j u->(xs.flatMap f).set (i * sz+j) u=(xs.set i x').flatMap f
 | [],i,j,x,x',u,h,_,_=>by simp at h
 | y :: xs,0,j,x,x',u,h,hj,hf=>by
  obtain rfl:y=x:=by simpa using h
  rw [List.flatMap_cons,List.set_cons_zero,List.flatMap_cons,Nat.zero_mul,Nat.zero_add,List.set_append_left _ _ (by rw [hL.len];exact hj),hf]
 | y :: xs,i+1,j,x,x',u,h,hj,hf=>by
  rw [List.flatMap_cons,List.set_cons_succ,List.flatMap_cons,List.set_append_right _ _ (by rw [hL.len,Nat.succ_mul];omega),hL.len,Nat.succ_mul,show i * sz+sz+j - sz=i * sz+j by omega,U7 hL (by simpa using h) hj hf]
theorem Ob.seg (hL:Lays f sz) {w:World} {b:Nat} {T:TypeId} {xs:List α} (o:Ob w b T (xs.flatMap f).toArray) {i j:Nat} {x x':α} {u:Value} (hi:xs[i]? = some x) (hj:j<sz) (hf:f x'=(f x).set j u) :
  Ob (w.setCell ⟨b,i * sz+j,none⟩ u) b T ((xs.set i x').flatMap f).toArray:=by
 have:=o.set (i:=i * sz+j) u
 have e:(xs.flatMap f).toArray.setIfInBounds (i * sz+j) u=((xs.set i x').flatMap f).toArray:=by
  rw [<- U7 hL hi hj hf];simp
 rw [e] at this;exact this
theorem Ob.segCell (hL:Lays f sz) {w:World} {b:Nat} {T:TypeId} {xs:List α} (o:Ob w b T (xs.flatMap f).toArray) {i j:Nat} {x:α} {u:Value} (hi:xs[i]? = some x) (hj:(f x)[j]? = some u):w.cell? ⟨b,i * sz+j,none⟩=some u:=by
 refine o.cell ?_
 have hj':j<sz:=by have:=(List.getElem?_eq_some_iff.1 hj).1;rw [hL.len] at this;exact this
 rw [List.getElem?_toArray,hL.at hi hj']
 exact hj
theorem Ob.sq (hL:Lays f sz) {w:World} {b:Nat} {T:TypeId} {xs:List α} (o:Ob w b T (xs.flatMap f).toArray) (hm:xs.length<=1000000):Sq f w (.slice (some ⟨b,0,none⟩) xs.length xs.length) xs :=
 Sq.block o (by simp) rfl (Nat.le_refl _) (by unfold maxLen;omega)
end
end Go.Proofs.YtppajakfaomkaaaGreatDoor.Mx
