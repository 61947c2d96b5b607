/- Parts. -/
import Derived.Test.YtleclbldlladmaaGreatVaa
import Derived.Deep.AppendLies
import Derived.Deep.Upon
import Derived.Laws.OwnMore
set_option linter.unusedVariables false
set_option linter.unusedSimpArgs false
set_option maxRecDepth 100000
set_option maxHeartbeats 12800000
namespace Go.Proofs.YtleclbldlladmaaGreat.Ar
open Go.RowKit
section
variable {w w':World} {B:Nat} {E:TypeId} {sz n:Nat} {v:Value} {xs:List Value} {S:List Nat}
theorem Q4 (h:w.ownsRow B E sz v n xs) (f:Fr S w w') (hS:∀ g,v.ownBlock=some g->g∉S):w'.ownsRow B E sz v n xs:=by obtain ⟨h1,h2⟩:=h;refine ⟨h1,h2.imp id ?_⟩;rintro ⟨g,cap,cur,rfl,hb,hh,r⟩;exact ⟨g,cap,cur,rfl,hb,f.heap hh (hS g rfl),r⟩
theorem qo (h:w.ownsRow B E sz v n xs) (f:Fr [] w w'):w'.ownsRow B E sz v n xs:=Q4 h f Lc
theorem Te (h:w.grownBy w' v.ownBlock):Fr v.ownBlock.toList w w' :=
 ⟨h.os,h.tape,h.output,h.size,fun k hk hn=>h.block k hk (fun e=>hn (by rw [<- e];simp))⟩
theorem je (h:w.ownsRow B E sz v n xs) {b:Nat} {cs:Array Value} {T:TypeId} {fr:Nat×Nat} (hb:w.heap[b]? = some (.cells cs T fr)) (hT:E≠T):b∉v.ownBlock.toList:=by
 rcases h.2 with ⟨rfl,_⟩ | ⟨g,cap,cur,rfl,_,hh,_⟩
 ·simp [Value.ownBlock]
 ·simp only [Value.ownBlock,Option.toList_some,List.mem_singleton];rintro rfl;rw [hh] at hb;simp only [Option.some.injEq,Obj.cells.injEq] at hb;exact hT hb.2.1
theorem qc8 (h:w.ownsRow B E sz v n xs) {b:Nat} {es:Array MapEntry} {k:Nat} (hb:w.heap[b]? = some (.map es k)):b∉v.ownBlock.toList:=by
 rcases h.2 with ⟨rfl,_⟩ | ⟨g,cap,cur,rfl,_,hh,_⟩
 ·simp [Value.ownBlock]
 ·simp only [Value.ownBlock,Option.toList_some,List.mem_singleton];rintro rfl;rw [hh] at hb;cases hb
theorem z8 (h:w.ownsRow B E sz v n xs):∀ g,g∈v.ownBlock.toList->B<=g:=by intro g hg;exact (h.lt g (by simpa using hg)).1
theorem kw {C:Nat} (h:w.ownsRow B E sz v n xs) (hC:C<=B):w.ownsRow C E sz v n xs:=by obtain ⟨h1,h2⟩:=h;refine ⟨h1,h2.imp id ?_⟩;rintro ⟨g,cap,cur,rfl,hb,r⟩;exact ⟨g,cap,cur,rfl,qh hC hb,r⟩
end
theorem qc3 {P:Program} {w:World} {ops:Array Oper} {rest:List Oper} {o:Oper} {a:Act} {Q:Exit->Act->World->Prop} (hgd:o.guard=none) (s x:Operand) (t:TypeId)
  (ho:o.op = .call { callee:=.builtin .append,args:=#[s,x],argTypes:=#[t,t] })
  {B:Nat} {E:TypeId} {z:Value} {size bytes:Nat} (ht:P.underlying t=some (.slice E)) (hi:(P.info? E).map (fun i=>(i.zero,i.size,i.bytes))=some (some z,size,bytes))
  (hzs:z.cells.size=size) (hsz:0<size)
  (v:Value) (n:Nat) (xs:List Value) (hs:a.eval s=v) (hown:w.ownsRow B E size v n xs)
  {b m c:Nat} {cs:Array Value} {T:TypeId} (hx:a.eval x = .slice (some ⟨b,0,none⟩) m c) (hb:w.heap[b]? = some (.cells cs T (0,0))) (hl:cs.size=m * size) (h1:∀ u∈cs.toList,u.oneCell'=true)
  (h63:n+m<=maxLen) (hbytes:(n+m) * bytes<=140737488355328) (hbase:B<=w.heap.size)
  (h:∀ v' w',w'.ownsRow B E size v' (n+m) (xs++cs.toList)->Fr v.ownBlock.toList w w'->wpList P ops Q rest (a.put o.dst v') w'):wpList P ops Q (o :: rest) a w:=by
 obtain ⟨i,hi0,hz,hs0,hb0⟩:=info_parts hi
 exact wpList_append_own_at w hgd s x t ho B E i z size bytes ht hi0 hz hs0 hb0 hzs hsz v n xs hs hown ⟨b,0,none⟩ m c cs.toList hx (by simpa using hl) (World.news_of_block hb) h1 h63 hbytes hbase
  fun v' w' h2 h3 _ _=>h v' w' h2 (Te h3)
theorem one_ints (k:IntKind) (zs:List Int):∀ u∈(zs.map (Value.int k)).toArray.toList,u.oneCell'=true:=by simpa using ints_oneCell k zs
theorem Qn {w:World} {B:Nat} {E:TypeId} {sz n:Nat} {v:Value} {xs:List Value} (h:w.ownsRow B E sz v n xs) :
  ∃ a cap,v = .slice a n cap/\n<=maxLen/\(n=0\/∃ g,a=some ⟨g,0,none⟩/\g<w.heap.size/\∀ j x,xs[j]? = some x->w.cell? ⟨g,j,none⟩=some x):=by
 obtain ⟨h1,h2⟩:=h;rcases h2 with ⟨rfl,rfl⟩ | ⟨g,cap,cur,rfl,-,hh,hc1,hc2,hs,ht⟩
 ·exact ⟨none,0,rfl,by simp [maxLen],.inl rfl⟩
 ·refine ⟨_,_,rfl,by omega,.inr ⟨g,rfl,(Array.getElem?_eq_some_iff.1 hh).1,fun j x hx=>?_⟩⟩;rw [cell_of_row _ _ _ _ _ _ hh];have hj:j<n * sz:=by rw [<- h1];exact (List.getElem?_eq_some_iff.1 hx).1
  rw [<- ht,List.getElem?_take_of_lt hj] at hx;simpa using hx
end Go.Proofs.YtleclbldlladmaaGreat.Ar
namespace Go.Proofs.YtleclbldlladmaaGreat.Mx
open Go.RowKit Ar
section
variable {α:Type} {f:α->List Value} {sz:Nat}
structure Lays (f:α->List Value) (sz:Nat):Prop where
 len:∀ x,(f x).length=sz
 one:∀ x,∀ u∈f x,u.oneCell'=true
 pos:0<sz
theorem Lays.flat (h:Lays f sz) (xs:List α):(xs.flatMap f).length=xs.length * sz:=by
 induction xs with
 | nil=>simp
 | cons x xs ih=>rw [List.flatMap_cons,List.length_append,ih,h.len,List.length_cons,Nat.succ_mul];omega
theorem Lays.ones (h:Lays f sz) (xs:List α):∀ u∈xs.flatMap f,u.oneCell'=true:=by intro u hu;obtain ⟨x,-,hx⟩:=List.mem_flatMap.1 hu;exact h.one x u hx
theorem Lays.parts (h:Lays f sz) (xs:List α) (k:Nat) (hk:k<=xs.length):(xs.take k).flatMap f++(xs.drop k).flatMap f=xs.flatMap f/\((xs.take k).flatMap f).length=k * sz :=
 ⟨by rw [<- List.flatMap_append,List.take_append_drop],by rw [h.flat,List.length_take,Nat.min_eq_left hk]⟩
theorem Lays.take (h:Lays f sz) (xs:List α) (k:Nat) (hk:k<=xs.length):(xs.take k).flatMap f=(xs.flatMap f).take (k * sz):=by obtain ⟨e,l⟩:=h.parts xs k hk;rw [<- e];exact (List.take_left' l).symm
theorem Lays.drop (h:Lays f sz) (xs:List α) (k:Nat) (hk:k<=xs.length):(xs.drop k).flatMap f=(xs.flatMap f).drop (k * sz):=by obtain ⟨e,l⟩:=h.parts xs k hk;rw [<- e];exact (List.drop_left' l).symm
theorem Lays.at (h:Lays f sz) {xs:List α} {i j:Nat} {x:α} (hi:xs[i]? = some x) (hj:j<sz):(xs.flatMap f)[i * sz+j]? = (f x)[j]?:=by
 induction xs generalizing i with
 | nil=>simp at hi
 | cons y xs ih =>
  rw [List.flatMap_cons];cases i with
  | zero =>
   simp at hi;subst hi;rw [Nat.zero_mul,Nat.zero_add,List.getElem?_append_left (by rw [h.len];exact hj)]
  | succ i =>
   rw [List.getElem?_append_right (by rw [h.len,Nat.succ_mul];omega),h.len,Nat.succ_mul,show i * sz+sz+j - sz=i * sz+j by omega];exact ih (by simpa using hi)
def Sq (f:α->List Value) (w:World) (v:Value) (xs:List α):Prop:=∃ a cap,v = .slice a xs.length cap/\xs.length<=cap/\cap<=maxLen /\
 (xs.length=0\/∃ g off,a=some ⟨g,off,none⟩/\g<w.heap.size/\∀ j u,(xs.flatMap f)[j]? = some u->w.cell? ⟨g,off+j,none⟩=some u)
theorem Sq.kept {S:List Nat} {w w':World} {v:Value} {xs:List α} (h:Sq f w v xs) (k:Fr S w w') (hS:∀ g,g∈v.ownBlock.toList->g∉S):Sq f w' v xs:=by obtain ⟨a,cap,rfl,h1,h2,h3⟩:=h;refine ⟨a,cap,rfl,h1,h2,h3.imp id ?_⟩;rintro ⟨g,off,rfl,hg,hc⟩;exact ⟨g,off,rfl,qj hg k.size,fun j u hu=>k.cell (hc j u hu) (hS g Lp)⟩
theorem Sq.up {w w':World} {v:Value} {xs:List α} (h:Sq f w v xs) (k:Fr [] w w'):Sq f w' v xs:=h.kept k Lc
theorem Sq.nil (w:World):Sq f w (.slice none 0 0) []:=⟨none,0,rfl,Nat.le_refl _,by simp [maxLen],.inl rfl⟩
theorem Sq.own {w:World} {B:Nat} {E:TypeId} {v:Value} {xs:List α} (h:w.ownsRow B E sz v xs.length (xs.flatMap f)):Sq f w v xs:=by
 obtain ⟨h1,h2⟩:=h;rcases h2 with ⟨rfl,e0⟩ | ⟨g,cap,cur,rfl,-,hh,hc1,hc2,hs,ht⟩
 ·have h0:xs.length=0:=by first | exact e0 | omega
  exact ⟨none,0,by rw [h0],by omega,by simp [maxLen],.inl h0⟩
 ·refine ⟨_,cap,rfl,hc1,hc2,.inr ⟨g,0,rfl,(Array.getElem?_eq_some_iff.1 hh).1,fun j u hu=>?_⟩⟩;rw [Nat.zero_add,cell_of_row _ _ _ _ _ _ hh];have hj:j<xs.length * sz:=by rw [<- h1];exact (List.getElem?_eq_some_iff.1 hu).1
  rw [<- ht,List.getElem?_take_of_lt hj] at hu;simpa using hu
theorem Sq.cell (hL:Lays f sz) {w:World} {a:Option Addr} {n cap:Nat} {xs:List α} (h:Sq f w (.slice a n cap) xs) {i:Nat} {x:α} (hi:xs[i]? = some x) :
  n=xs.length/\∃ g off,a=some ⟨g,off,none⟩/\∀ j u,(f x)[j]? = some u->w.cell? ⟨g,off+i * sz+j,none⟩=some u:=by
 obtain ⟨a',cap',e,h1,h2,h3⟩:=h;simp only [Value.slice.injEq] at e;obtain ⟨rfl,rfl,rfl⟩:=e;refine ⟨rfl,?_⟩;have hlt:=(List.getElem?_eq_some_iff.1 hi).1;rcases h3 with h0 | ⟨g,off,rfl,-,hc⟩
 ·omega
 ·refine ⟨g,off,rfl,fun j u hu=>?_⟩;have hj:j<sz:=by have:=(List.getElem?_eq_some_iff.1 hu).1;rw [hL.len] at this;exact this
  rw [Nat.add_assoc];exact hc _ _ ((hL.at hi hj).trans hu)
theorem Sq.take (hL:Lays f sz) {w:World} {a:Option Addr} {n cap:Nat} {xs:List α} (h:Sq f w (.slice a n cap) xs) (k:Nat) (hk:k<=xs.length):Sq f w (.slice a k cap) (xs.take k):=by
 obtain ⟨a',cap',e,h1,h2,h3⟩:=h;simp only [Value.slice.injEq] at e;obtain ⟨rfl,rfl,rfl⟩:=e;have hl:(xs.take k).length=k:=by simp [Nat.min_eq_left hk]
 refine ⟨a,cap,by rw [hl],by omega,h2,?_⟩;rcases h3 with h0 | ⟨g,off,rfl,hg,hc⟩
 ·exact .inl Lb
 ·refine .inr ⟨g,off,rfl,hg,fun j u hu=>hc j u ?_⟩;rw [hL.take xs k hk] at hu;have hj:=(List.getElem?_eq_some_iff.1 hu).1;rw [List.length_take] at hj;rw [List.getElem?_take_of_lt Lb] at hu;exact hu
theorem Sq.drop (hL:Lays f sz) {w:World} {g off n cap:Nat} {xs:List α} (h:Sq f w (.slice (some ⟨g,off,none⟩) n cap) xs) (k:Nat) (hk:k<=xs.length):Sq f w (.slice (some ⟨g,off+k * sz,none⟩) (xs.length - k) (cap - k)) (xs.drop k):=by
 obtain ⟨a',cap',e,h1,h2,h3⟩:=h;simp only [Value.slice.injEq] at e;obtain ⟨rfl,rfl,rfl⟩:=e;have hl:(xs.drop k).length=xs.length - k:=by simp
 refine ⟨_,cap - k,by rw [hl],by omega,by omega,?_⟩;rcases h3 with h0 | ⟨g',off',e,hg,hc⟩
 ·exact .inl Lb
 ·simp only [Option.some.injEq,Addr.mk.injEq] at e;obtain ⟨rfl,rfl,-⟩:=e;refine .inr ⟨g,off+k * sz,rfl,hg,fun j u hu=>?_⟩;rw [hL.drop xs k hk,List.getElem?_drop] at hu;rw [Nat.add_assoc];exact hc _ _ hu
theorem Sq.block {w:World} {b n c:Nat} {cs:Array Value} {T:TypeId} {xs:List α} (h:w.heap[b]? = some (.cells cs T (0,0))) (hx:xs.flatMap f=cs.toList) (hn:xs.length=n) (h1:n<=c) (h2:c<=maxLen):Sq f w (.slice (some ⟨b,0,none⟩) n c) xs:=by subst hn;refine ⟨_,c,rfl,h1,h2,.inr ⟨b,0,rfl,(Array.getElem?_eq_some_iff.1 h).1,fun j u hu=>?_⟩⟩;rw [cell_of_row _ _ _ _ _ _ h,Nat.zero_add];rw [hx] at hu;simpa using hu
theorem Sq.empty (w:World) (a:Option Addr) {c:Nat} (h:c<=maxLen):Sq f w (.slice a 0 c) []:=⟨a,c,rfl,Nat.zero_le _,h,.inl rfl⟩
theorem addr_add (b o j:Nat):(⟨b,o,none⟩:Addr).add j=⟨b,o+j,none⟩:=by
 unfold Addr.add;split
 ·rename_i h;subst h;rfl
 ·rfl
theorem qq {P:Program} {w:World} {ops:Array Oper} {rest:List Oper} {o:Oper} {a:Act} {Q:Exit->Act->World->Prop} (hL:Lays f sz) (hgd:o.guard=none) (s x:Operand) (t:TypeId)
  (ho:o.op = .call { callee:=.builtin .append,args:=#[s,x],argTypes:=#[t,t] }) {E:TypeId} {z:Value} {bytes:Nat} (ht:P.underlying t=some (.slice E)) (hi:(P.info? E).map (fun i=>(i.zero,i.size,i.bytes))=some (some z,sz,bytes)) (hzs:z.cells.size=sz)
  {B:Nat} (v:Value) (os:List α) (hs:a.eval s=v) (hown:w.ownsRow B E sz v os.length (os.flatMap f)) (xv:Value) (ps:List α) (hx:a.eval x=xv) (hp:Sq f w xv ps)
  (hl:os.length+ps.length<=100000000) (hb:bytes<=1000) (hbase:B<=w.heap.size)
  (h:∀ a' c' w',w'.ownsRow B E sz (.slice a' (os++ps).length c') (os++ps).length ((os++ps).flatMap f)->Fr v.ownBlock.toList w w'->wpList P ops Q rest (a.put o.dst (.slice a' (os++ps).length c')) w'):wpList P ops Q (o :: rest) a w:=by
 obtain ⟨ad,cap,rfl,hcap,hm,hc⟩:=hp;obtain ⟨i,hi0,hz,hs0,hb0⟩:=info_parts hi;have hbytes:(os.length+ps.length) * bytes<=140737488355328:=qh (Nat.mul_le_mul hl hb) Lg
 have go:∀ (ad:Addr),(∀ j u,(ps.flatMap f)[j]? = some u->w.cell? (ad.add j)=some u)->a.eval x = .slice (some ad) ps.length cap->wpList P ops Q (o :: rest) a w:=by
  intro ad hcell hx;refine wpList_append_own_at w hgd s x t ho B E i _ sz bytes ht hi0 hz hs0 hb0 hzs hL.pos v os.length _ hs hown ad ps.length cap (ps.flatMap f) hx (hL.flat ps) hcell (hL.ones ps) Ni hbytes hbase fun v' w' h2 h3 _ _=>?_
  rw [<- List.flatMap_append,<- List.length_append] at h2;obtain ⟨a',c',rfl,-,-⟩:=Qn h2;exact h a' c' w' h2 (Te h3)
 have hnil:ps.length=0->wpList P ops Q (o :: rest) a w:=by
  intro h0;obtain rfl:ps=[]:=List.eq_nil_of_length_eq_zero h0;cases ad with
  | some ad=>exact go ad (fun j u hu=>by simp at hu) hx
  | none =>
   have hown':=hown;obtain ⟨hxl,hv⟩:=hown
   have hle:∃ b0 c0,v = .slice b0 os.length c0/\os.length<=c0:=Cj
   obtain ⟨b0,c0,rfl,hle⟩:=hle;refine wpList_plain hgd fun K hK=>?_
   have hr:=run_append_nothing (P:=P) w t t o.type E i ht hi0 b0 os.length c0 hle (.slice none 0 cap) (by rw [hs0];exact Src.ofNil w ht cap);unfold Oper.wp execOp;have hx':a.eval x = .slice none 0 cap:=hx;simp only [ho,resolve,invoke,builtin,Sem.run_bind,Sem.run_pure,Result.andThen_ok,List.map_toArray,List.map_cons,List.map_nil,hs,hx',hr];have h':=h b0 c0 w;rw [List.append_nil] at h';exact hK _ _ (h' hown' (Fr.refl _ _))
 exact Dn
end
section
variable {α:Type} {f:α->List Value} {sz:Nat}
def Xq (ms:List α) (z:α) (i:Nat):List α:=ms.take i++List.replicate (ms.length - i) z
theorem q6y (ms:List α) (z:α):Xq ms z 0=List.replicate ms.length z:=by simp [Xq]
theorem q86 (ms:List α) (z:α) {i:Nat} (h:i<=ms.length):(Xq ms z i).length=ms.length:=by simp [Xq];omega
theorem Sc (ms:List α) (z:α) {i:Nat} (h:i<ms.length):Xq ms z i=ms.take i++z :: List.replicate (ms.length - (i+1)) z:=by unfold Xq;rw [show ms.length - i=(ms.length - (i+1))+1 by omega,List.replicate_succ]
theorem q9d {ms:List α} (z:α) {i:Nat} {v:α} (h:ms[i]? = some v):(Xq ms z i).set i v=Xq ms z (i+1):=by have hl:=(List.getElem?_eq_some_iff.1 h).1;rw [Sc ms z hl];unfold Xq;rw [List.take_add_one,h,Option.toList_some,List.append_assoc,List.set_append_right _ _ (by rw [List.length_take];omega),show i - (ms.take i).length=0 by rw [List.length_take];omega];rfl
theorem qbq {ms:List α} (z:α) {i:Nat} (h:i<ms.length):(Xq ms z i)[i]? = some z:=by rw [Sc ms z h,List.getElem?_append_right (by rw [List.length_take];omega),show i - (ms.take i).length=0 by rw [List.length_take];omega];rfl
theorem q6v {ms:List α} (z:α) {i j:Nat} (h:j<i) (hj:j<ms.length):(Xq ms z i)[j]? = ms[j]?:=by unfold Xq;rw [List.getElem?_append_left Ll,List.getElem?_take_of_lt h]
theorem q7l (hL:Lays f sz) (z:α) (zs:Array Value) (hz:zs.toList=f z) (n:Nat):(madeCells zs (n * sz)).toList=(List.replicate n z).flatMap f:=by
 have hzs:zs.size=sz:=by rw [<- Array.length_toList,hz,hL.len]
 apply List.ext_getElem?;intro k;by_cases hk:k<n * sz
 ·have h1:k / sz<n:=(Nat.div_lt_iff_lt_mul hL.pos).2 hk;have h2:k % sz<sz:=Nat.mod_lt _ hL.pos;have h3:k=(k / sz) * sz+k % sz:=by rw [Nat.mul_comm];exact (Nat.div_add_mod k sz).symm
  have e:((List.replicate n z).flatMap f)[k]? = (f z)[k % sz]?:=by have:=hL.at (xs:=List.replicate n z) (i:=k / sz) (j:=k % sz) (x:=z) (by rw [List.getElem?_replicate];simp [h1]) h2;rw [<- h3] at this;exact this
  rw [e,<- hz];simp only [madeCells,Array.toList_map,Array.toList_range,List.getElem?_map,List.getElem?_range hk,Option.map_some,hzs];rw [Array.getElem?_toList,getElem!_pos zs (k % sz) (by rw [hzs];exact h2)];rw [Array.getElem?_eq_getElem]
 ·rw [List.getElem?_eq_none (by simp [madeCells];omega),List.getElem?_eq_none (by rw [hL.flat];simp;omega)]
theorem S0 {P:Program} {w:World} {ops:Array Oper} {rest:List Oper} {o:Oper} {a:Act} {Q:Exit->Act->World->Prop} (hL:Lays f sz) (hg:o.guard=none) (l c:Operand) (t:TypeId) (hop:o.op=Op.makeSlice t l c)
  {E:TypeId} {z:Value} {bytes:Nat} (ht:P.underlying t=some (.slice E)) (hi:(P.info? E).map (fun i=>(i.zero,i.size,i.bytes))=some (some z,sz,bytes)) (z0:α) (hz:z.cells.toList=f z0)
  (n:Nat) (hl:a.eval l = .int .i64 (n:Int)) (hc:a.eval c = .int .i64 (n:Int)) (hn:n<=100000000) (hb:bytes<=1000)
  (hK:∀ w',Ob w' w.heap.size E ((List.replicate n z0).flatMap f).toArray->Fr [] w w'->wpList P ops Q rest (a.put o.dst (.slice (some ⟨w.heap.size,0,none⟩) n n)) w'):wpList P ops Q (o :: rest) a w:=by
 obtain ⟨i,hi0,hz0,hs0,hb0⟩:=info_parts hi;refine wpList_make_full w hg l c t hop 0 E i z sz ht hi0 hz0 hs0 .i64 .i64 _ _ n hl hc rfl rfl (by rw [hb0];have:=Nat.mul_le_mul hb hn;omega) Ni (Nat.zero_le _) fun w' hown hgr=>?_
 refine hK w' ?_ (Fr.grown hgr);obtain ⟨-,hown⟩:=hown;rcases hown with ⟨e1,-⟩ | ⟨g,cap,cur,e1,-,hh,hc1,hc2,hs,ht2⟩
 ·simp at e1
 simp only [Value.slice.injEq,Option.some.injEq,Addr.mk.injEq] at e1;obtain ⟨⟨rfl,-⟩,-,rfl⟩:=e1;rw [q7l hL z0 _ hz,List.take_of_length_le Ll] at ht2;have:cur=((List.replicate n z0).flatMap f).toArray:=by rw [<- ht2]
 rw [this] at hh;exact hh
theorem Tj (hL:Lays f sz):∀ {xs:List α} {i j:Nat} {x x':α} {u:Value},xs[i]? = some x->j<sz->f x'=(f x).set j u->(xs.flatMap f).set (i * sz+j) u=(xs.set i x').flatMap f
 | [],i,j,x,x',u,h,_,_=>by simp at h
 | y :: xs,0,j,x,x',u,h,hj,hf=>by
  obtain rfl:y=x:=by simpa using h
  rw [List.flatMap_cons,List.set_cons_zero,List.flatMap_cons,Nat.zero_mul,Nat.zero_add,List.set_append_left _ _ (by rw [hL.len];exact hj),hf]
 | y :: xs,i+1,j,x,x',u,h,hj,hf=>by
  rw [List.flatMap_cons,List.set_cons_succ,List.flatMap_cons,List.set_append_right _ _ (by rw [hL.len,Nat.succ_mul];omega),hL.len,Nat.succ_mul,show i * sz+sz+j - sz=i * sz+j by omega,Tj hL P5 hj hf]
theorem Ob.seg (hL:Lays f sz) {w:World} {b:Nat} {T:TypeId} {xs:List α} (o:Ob w b T (xs.flatMap f).toArray) {i j:Nat} {x x':α} {u:Value} (hi:xs[i]? = some x) (hj:j<sz) (hf:f x'=(f x).set j u) :
  Ob (w.setCell ⟨b,i * sz+j,none⟩ u) b T ((xs.set i x').flatMap f).toArray:=by
 have:=o.set (i:=i * sz+j) u
 have e:(xs.flatMap f).toArray.setIfInBounds (i * sz+j) u=((xs.set i x').flatMap f).toArray:=by rw [<- Tj hL hi hj hf];simp
 rw [e] at this;exact this
theorem Ob.segCell (hL:Lays f sz) {w:World} {b:Nat} {T:TypeId} {xs:List α} (o:Ob w b T (xs.flatMap f).toArray) {i j:Nat} {x:α} {u:Value} (hi:xs[i]? = some x) (hj:(f x)[j]? = some u):w.cell? ⟨b,i * sz+j,none⟩=some u:=by
 refine o.cell ?_;have hj':j<sz:=by have:=(List.getElem?_eq_some_iff.1 hj).1;rw [hL.len] at this;exact this
 rw [List.getElem?_toArray,hL.at hi hj'];exact hj
theorem Ob.sq (hL:Lays f sz) {w:World} {b:Nat} {T:TypeId} {xs:List α} (o:Ob w b T (xs.flatMap f).toArray) (hm:xs.length<=100000000):Sq f w (.slice (some ⟨b,0,none⟩) xs.length xs.length) xs :=
 Sq.block o Lc rfl (Nat.le_refl _) Ni
end
structure It where
 k:Int
 v:Int
 d:Int
deriving DecidableEq
def fT (x:It):List Value:=[.int .i64 x.k,.int .i64 x.v,.int .i64 x.d]
theorem zh:Lays fT 3:=⟨fun _=>rfl,fun x u hu=>by simp [fT] at hu;rcases hu with rfl | rfl | rfl <;> rfl,by decide⟩
theorem itI:(Tryz.prog.info? 148).map (fun i=>(i.zero,i.size,i.bytes))=some (some (.agg #[.int .i64 0,.int .i64 0,.int .i64 0]),3,24):=by kernel_rfl
def gtT (y x:It):Bool:=decide (y.k>x.k) || ((y.k == x.k) && decide (y.v>x.v))
def Ye (out:List It) (x:It):Nat->Nat
 | 0=>0
 | k+1=>if (out[k]?.any fun y=>gtT y x)=true then Ye out x k else k+1
def Tt (out:List It) (x:It):List It:=out.take (Ye out x out.length)++[x]++out.drop (Ye out x out.length)
def Zd (l:List It):List It:=l.foldl Tt []
theorem Rw {out:List It} {x y:It} {j:Nat} (hy:out[j]? = some y):Ye out x (j+1)=if gtT y x=true then Ye out x j else j+1:=by simp only [Ye,hy,Option.any_some]
theorem q5d (out:List It) (x:It) (k:Nat):Ye out x k<=k:=by
 induction k with
 | zero=>exact Nat.le_refl _
 | succ k ih=>unfold Ye;split <;> omega
theorem q17 (out:List It) (x:It):(Tt out x).length=out.length+1:=by unfold Tt;have:=q5d out x out.length;simp;omega
theorem Xf (l:List It):(Zd l).length=l.length:=by
 unfold Zd;suffices h:∀ (l out:List It),(l.foldl Tt out).length=out.length+l.length by have:=h l [];simpa using this
 intro l;induction l with
 | nil=>intro out;rfl
 | cons x l ih=>intro out;rw [List.foldl_cons,ih,q17,List.length_cons];omega
theorem xk {w:World} {a:Option Addr} {n cap i:Nat} {xs:List It} {x:It} (h:Sq fT w (.slice a n cap) xs) (hi:xs[i]? = some x) :
  ∃ g off,a=some ⟨g,off,none⟩/\w.cell? ⟨g,off+i * 3,none⟩=some (.int .i64 x.k)/\w.cell? ⟨g,off+i * 3+1,none⟩=some (.int .i64 x.v)/\w.cell? ⟨g,off+i * 3+2,none⟩=some (.int .i64 x.d):=by
 obtain ⟨-,g,off,rfl,hc⟩:=Sq.cell zh h hi;exact Hp
def SrtAt (w:World) (l:List It) (u x:Value) (wr:World):Prop:=∃ i,i<=l.length/\x = .int .i64 (i:Nat)/\wr.ownsRow w.heap.size 148 3 u (Zd (l.take i)).length ((Zd (l.take i)).flatMap fT)/\Fr [] w wr
def PosAt (wr:World) (out:List It) (x:It) (u:Value) (w':World):Prop:=∃ k,k<=out.length/\u = .int .i64 (k:Nat)/\Fr [] wr w'/\Ye out x out.length=Ye out x k
theorem q9c (l:List It) (v:Value) (w:World) (hl:l.length<=1000) (h:Sq fT w v l) :
  Calls Tryz.prog 147 #[v] w fun e w'=>(∃ u,e = .returned u/\w'.ownsRow w.heap.size 148 3 u (Zd l).length ((Zd l).flatMap fT))/\Fr [] w w':=by
 obtain ⟨a,cap,rfl,hcap,hmax,-⟩:=id h;go_enter Tryz.func147,Tryz.ntmps147;go_wp2_with fail;go_loopw [3,4] (SrtAt w l) (fun _ x _=>l.length - (intOf x).toNat);case atStart=>exact ⟨0,by omega,rfl,⟨rfl,.inl ⟨rfl,rfl⟩⟩,Fr.refl _ _⟩
 case round =>
  obtain ⟨i,hi,rfl,hr,F⟩:=hrel;by_cases hlt:i<l.length
  ·obtain ⟨x,hx⟩:∃ x,l[i]? = some x:=⟨l[i],List.getElem?_eq_getElem hlt⟩;have hso:=Xf (l.take i)
   have hnx:Zd (l.take (i+1))=Tt (Zd (l.take i)) x:=by unfold Zd;exact Gz
   generalize Zd (l.take i)=out at *;have hol:out.length<=1000:=by rw [hso,List.length_take];omega
   obtain ⟨ao,co,rfl,hco,hcm,-⟩:=id (Sq.own (f:=fT) hr);have HO:=Sq.own (f:=fT) hr;have HN:=q9 (qc hnx hol);clear hnx hso;go_wp2_with fail;go_loopw [5] (PosAt wr out x) (fun u _=>(intOf u).toNat);case atStart=>exact ⟨out.length,Nat.le_refl _,rfl,Fr.refl _ _,rfl⟩
   case round =>
    obtain ⟨k,hk,rfl,F2,hp⟩:=hrel;rcases k with _ | j
    ·obtain ⟨gl,ol,rfl,-,-,-⟩:=xk (h.up (F.trans F2)) hx;by_cases h00:out.length=0
     ·obtain rfl:out=[]:=List.eq_nil_of_length_eq_zero h00;go_wp2_with fail;refine wiq ?_;repeat (go_big_quiet_step (fail))
      refine wpQuiet_nil ?_;intro w5 F5;go_wp2_with fail;have FW:=(F.trans F2).trans F5;have HO5:=HO.up (F2.trans F5);have HL5:=q9 (h.up FW);refine z7 Le [] (fun w2 F2'=>?_);refine epq [true,true,true,false,true,true,true,true,false,false,true,true,true,false,false] 5 F2' ?_;apply qg;refine ⟨fun wf Ff=>?_,?_⟩
      ·exact Ib
      have HS1:=q9 (Sq.empty (f:=fT) w5 ao hcm);have HS2:=q9 (Sq.empty (f:=fT) w5 ao hcm);have HT:=q9 (show ([]:List It).length<=1000/\([]:List It).length<=1000/\Tt [] x=[]++[x]++[] from ⟨by simp,by simp,rfl⟩);refine jd [3,8] Le Lc (fun w10 F10 m hm o ho=>?_);have G:=F2'.trans F10;clear F10 F2';simp only [List.mem_cons,List.not_mem_nil,or_false] at hm;rcases hm with rfl | rfl
      focus
       obtain rfl:=qi ho
       have S1':=HS1.out.up G
       go_wp2_with (at_builtin;refine qq zh rfl _ _ 129 rfl Tryz.underlying129 itI rfl (B:=w5.heap.size) (.slice none 0 0) [] rfl ⟨rfl,.inl ⟨rfl,rfl⟩⟩ _ ([]:List It) rfl S1' Lt Lg G.size ?_;intro a21 c21 w21 r21 f21)
       rw [List.nil_append] at r21
       replace G:=G.trans f21
       clear f21 S1'
       refine ql ⟨G,?_⟩
       refine eoq 8 (fun w11 F11=>?_)
       have r11:=qo r21 F11
       replace G:=G.trans F11
       clear r21 F11
       go_wp2_with fail
       have F12:=(Fr.refl [] w11).alloc (.cells #[.int .i64 x.k,.int .i64 x.v,.int .i64 x.d] 148)
       have B21:=Go.heap_alloc_new w11 (.cells #[.int .i64 x.k,.int .i64 x.v,.int .i64 x.d] 148)
       have r21:=qo r11 F12
       replace G:=G.trans F12
       clear r11 F12 ho
      rotate_left
      focus
       obtain rfl:=qi ho
       go_wp2_with fail
       have F12:=(Fr.refl [] w10).alloc (.cells #[.int .i64 x.k,.int .i64 x.v,.int .i64 x.d] 148)
       have B12:=Go.heap_alloc_new w10 (.cells #[.int .i64 x.k,.int .i64 x.v,.int .i64 x.d] 148)
       replace G:=G.trans F12
       clear F12 ho
       refine ql ⟨G,?_⟩
       refine eoq 3 (fun w11 F11=>?_)
       have B13:=F11.heap B12 Lc
       replace G:=G.trans F11
       clear B12 F11
       have S1':=HS1.out.up G
       go_wp2_with (at_builtin;refine qq zh rfl _ _ 129 rfl Tryz.underlying129 itI rfl (B:=w5.heap.size) (.slice none 0 0) [] rfl ⟨rfl,.inl ⟨rfl,rfl⟩⟩ _ ([]:List It) rfl S1' Lt Lg G.size ?_;intro a21 c21 w21 r21 f21)
       rw [List.nil_append] at r21
       have B21:=Fr.heap f21 B13 Lp
       replace G:=G.trans f21
       clear f21 B13 S1'
      rotate_left
      all_goals
       refine ql ⟨G,?_⟩
       refine eoq 9 (fun w13 F13=>?_)
       have r22:=qo r21 F13
       have B22:=F13.heap B21 Lc
       replace G:=G.trans F13
       clear r21 B21 F13
       go_wp2_with (at_builtin;refine qq zh rfl _ _ 129 rfl Tryz.underlying129 itI rfl (B:=w5.heap.size) _ ([]:List It) rfl r22 _ [x] rfl (Sq.block B22 rfl rfl (Nat.le_refl _) Lm) Lt Lg G.size ?_;intro a23 c23 w23 r23 f23;generalize hT3:([]:List It)++[x]=T3 at r23 ⊢)
       replace G:=G.own f23 (z8 r22)
       clear f23 r22 B22
       refine ql ⟨G,?_⟩
       refine eoq 13 (fun w14 F14=>?_)
       have r24:=qo r23 F14
       replace G:=G.trans F14
       clear r23 F14
       have S2':=HS2.out.up G
       go_wp2_with (at_builtin;refine qq zh rfl _ _ 129 rfl Tryz.underlying129 itI rfl (B:=w5.heap.size) _ T3 rfl r24 _ ([]:List It) rfl S2' N8 Lg G.size ?_;intro a25 c25 w25 r25 f25;generalize hT4:T3++([]:List It)=T4 at r25 ⊢)
       replace G:=G.own f25 (z8 r24)
       clear f25 r24 S2'
       refine ql ⟨G,?_⟩
       refine eoq 14 (fun w15 F15=>?_)
       have r26:=qo r25 F15
       replace G:=G.trans F15
       clear r25 F15
       go_wp2
       refine ql ⟨G,?_⟩
       refine zr Le (fun w16 F16=>?_)
       have r27:=qo r26 F16
       replace G:=G.trans F16
       clear r26 F16
       have e26:Zd (l.take (i+1))=T4:=by rw [HN.out.1,HT.out.2.2,hT3,hT4]
       rw [<- e26] at r27 ⊢
       have r28:=kw r27 FW.size
       go_wp2
       exact ⟨⟨i+1,by omega,by go_num,r28,FW.trans G⟩,by simp [intOf];omega⟩
     obtain ⟨y,hy⟩:∃ y,out[0]? = some y:=⟨out[0],List.getElem?_eq_getElem Lb⟩;obtain ⟨go,oo,rfl,-,-,-⟩:=xk HO hy;go_wp2_with fail;refine wiq ?_;repeat (go_big_quiet_step (fail))
     refine wpQuiet_nil ?_;intro w5 F5;go_wp2_with fail;have FW:=(F.trans F2).trans F5;have HO5:=HO.up (F2.trans F5);have HL5:=q9 (h.up FW);refine z7 Le [] (fun w2 F2'=>?_);refine epq [true,true,true,false,true,true,true,true,false,false,true,true,true,false,false] 5 F2' ?_;apply qg;refine ⟨fun wf Ff=>?_,?_⟩
     ·exact Ib
     have HS1:=q9 (Sq.empty (f:=fT) w5 (some ⟨go,oo,none⟩) hcm);have HS2:=q9 (HO5);have HT:=q9 (show ([]:List It).length<=1000/\out.length<=1000/\Tt out x=[]++[x]++out from ⟨by simp,HN.out.2,by unfold Tt;rw [hp];rfl⟩);refine jd [3,8] Le Lc (fun w10 F10 m hm o ho=>?_);have G:=F2'.trans F10;clear F10 F2';simp only [List.mem_cons,List.not_mem_nil,or_false] at hm;rcases hm with rfl | rfl
     focus
      obtain rfl:=qi ho
      have S1':=HS1.out.up G
      go_wp2_with (at_builtin;refine qq zh rfl _ _ 129 rfl Tryz.underlying129 itI rfl (B:=w5.heap.size) (.slice none 0 0) [] rfl ⟨rfl,.inl ⟨rfl,rfl⟩⟩ _ ([]:List It) rfl S1' Lt Lg G.size ?_;intro a21 c21 w21 r21 f21)
      rw [List.nil_append] at r21
      replace G:=G.trans f21
      clear f21 S1'
      refine ql ⟨G,?_⟩
      refine eoq 8 (fun w11 F11=>?_)
      have r11:=qo r21 F11
      replace G:=G.trans F11
      clear r21 F11
      go_wp2_with fail
      have F12:=(Fr.refl [] w11).alloc (.cells #[.int .i64 x.k,.int .i64 x.v,.int .i64 x.d] 148)
      have B21:=Go.heap_alloc_new w11 (.cells #[.int .i64 x.k,.int .i64 x.v,.int .i64 x.d] 148)
      have r21:=qo r11 F12
      replace G:=G.trans F12
      clear r11 F12 ho
     rotate_left
     focus
      obtain rfl:=qi ho
      go_wp2_with fail
      have F12:=(Fr.refl [] w10).alloc (.cells #[.int .i64 x.k,.int .i64 x.v,.int .i64 x.d] 148)
      have B12:=Go.heap_alloc_new w10 (.cells #[.int .i64 x.k,.int .i64 x.v,.int .i64 x.d] 148)
      replace G:=G.trans F12
      clear F12 ho
      refine ql ⟨G,?_⟩
      refine eoq 3 (fun w11 F11=>?_)
      have B13:=F11.heap B12 Lc
      replace G:=G.trans F11
      clear B12 F11
      have S1':=HS1.out.up G
      go_wp2_with (at_builtin;refine qq zh rfl _ _ 129 rfl Tryz.underlying129 itI rfl (B:=w5.heap.size) (.slice none 0 0) [] rfl ⟨rfl,.inl ⟨rfl,rfl⟩⟩ _ ([]:List It) rfl S1' Lt Lg G.size ?_;intro a21 c21 w21 r21 f21)
      rw [List.nil_append] at r21
      have B21:=Fr.heap f21 B13 Lp
      replace G:=G.trans f21
      clear f21 B13 S1'
     rotate_left
     all_goals
      refine ql ⟨G,?_⟩
      refine eoq 9 (fun w13 F13=>?_)
      have r22:=qo r21 F13
      have B22:=F13.heap B21 Lc
      replace G:=G.trans F13
      clear r21 B21 F13
      go_wp2_with (at_builtin;refine qq zh rfl _ _ 129 rfl Tryz.underlying129 itI rfl (B:=w5.heap.size) _ ([]:List It) rfl r22 _ [x] rfl (Sq.block B22 rfl rfl (Nat.le_refl _) Lm) Lt Lg G.size ?_;intro a23 c23 w23 r23 f23;generalize hT3:([]:List It)++[x]=T3 at r23 ⊢)
      replace G:=G.own f23 (z8 r22)
      clear f23 r22 B22
      refine ql ⟨G,?_⟩
      refine eoq 13 (fun w14 F14=>?_)
      have r24:=qo r23 F14
      replace G:=G.trans F14
      clear r23 F14
      have S2':=HS2.out.up G
      go_wp2_with (at_builtin;refine qq zh rfl _ _ 129 rfl Tryz.underlying129 itI rfl (B:=w5.heap.size) _ T3 rfl r24 _ out rfl S2' N8 Lg G.size ?_;intro a25 c25 w25 r25 f25;generalize hT4:T3++out=T4 at r25 ⊢)
      replace G:=G.own f25 (z8 r24)
      clear f25 r24 S2'
      refine ql ⟨G,?_⟩
      refine eoq 14 (fun w15 F15=>?_)
      have r26:=qo r25 F15
      replace G:=G.trans F15
      clear r25 F15
      go_wp2
      refine ql ⟨G,?_⟩
      refine zr Le (fun w16 F16=>?_)
      have r27:=qo r26 F16
      replace G:=G.trans F16
      clear r26 F16
      have e26:Zd (l.take (i+1))=T4:=by rw [HN.out.1,HT.out.2.2,hT3,hT4]
      rw [<- e26] at r27 ⊢
      have r28:=kw r27 FW.size
      go_wp2
      exact ⟨⟨i+1,by omega,by go_num,r28,FW.trans G⟩,by simp [intOf];omega⟩
    ·obtain ⟨y,hy⟩:∃ y,out[j]? = some y:=⟨out[j],List.getElem?_eq_getElem Lb⟩;have HO2:=HO.up F2;have HL2:=h.up (F.trans F2);obtain ⟨go,oo,rfl,y0,y1,y2⟩:=xk HO2 hy;obtain ⟨gl,ol,rfl,x0,x1,x2⟩:=xk HL2 hx;have hj1:((j+1:Nat):Int) - 1=(j:Nat):=by omega
     have hps:=Rw (x:=x) hy;have n0:=qb y0;have n1:=qb y1;have m0:=qb x0;have m1:=qb x1;clear HO2 HL2;by_cases e1:y.k>x.k
     ·have g1:decide (y.k>x.k)=true:=by simpa using e1
      have hg:gtT y x=true:=by unfold gtT;rw [g1];rfl
      have HP:=q9 (show Ye out x (j+1)=Ye out x j by rw [hps,qf hg]);clear hps hg;go_wp2_with fail;refine wiq ?_;repeat (go_big_quiet_step (fail))
      refine wpQuiet_nil ?_;intro w5 F5;go_wp2_with fail;exact ⟨⟨j,by omega,rfl,F2.trans F5,hp.trans HP.out⟩,by simp [intOf]⟩
     have g1:decide (y.k>x.k)=false:=by simpa using e1
     by_cases e2:y.k=x.k
     focus
      have g2:(y.k == x.k)=true:=by simpa using e2
      by_cases e3:y.v>x.v
      ·have g3:decide (y.v>x.v)=true:=by simpa using e3
       have hg:gtT y x=true:=by unfold gtT;rw [g1,g2,g3];rfl
       have HP:=q9 (show Ye out x (j+1)=Ye out x j by rw [hps,qf hg])
       clear hps hg e2
       go_wp2_with fail
       refine wiq ?_
       repeat (go_big_quiet_step (fail))
       refine wpQuiet_nil ?_
       intro w5 F5
       go_wp2_with fail
       exact ⟨⟨j,by omega,rfl,F2.trans F5,hp.trans HP.out⟩,by simp [intOf]⟩
      have g3:decide (y.v>x.v)=false:=by simpa using e3
      have hg:gtT y x=false:=by unfold gtT;rw [g1,g2,g3];rfl
      have HP:=q9 (show Ye out x (j+1)=j+1 by rw [hps,qd (by simp [hg])])
      clear hps hg e2
     rotate_left
     focus
      have g2:(y.k == x.k)=false:=by simpa using e2
      have hg:gtT y x=false:=by unfold gtT;rw [g1,g2];rfl
      have HP:=q9 (show Ye out x (j+1)=j+1 by rw [hps,qd (by simp [hg])])
      clear hps hg
     rotate_left
     all_goals
      go_wp2_with fail
      refine wiq ?_
      repeat (go_big_quiet_step (fail))
      refine wpQuiet_nil ?_
      intro w5 F5
      clear n0 n1 m0 m1 y0 y1 y2 x0 x1 x2
      by_cases hjl:j+1<out.length
      ·go_wp2_with fail
       have FW:=(F.trans F2).trans F5
       have HO5:=HO.up (F2.trans F5)
       have HL5:=q9 (h.up FW)
       refine z7 Le [] (fun w2 F2'=>?_)
       refine epq [true,true,true,false,true,true,true,true,false,false,true,true,true,false,false] 5 F2' ?_
       apply qg
       refine ⟨fun wf Ff=>?_,?_⟩
       ·obtain ⟨gl',ol',hgl,x0,x1,x2⟩:=xk (HL5.out.up Ff) hx
        simp only [Option.some.injEq,Addr.mk.injEq] at hgl
        obtain ⟨rfl,rfl,-⟩:=hgl
        have j0:=qb x0
        have j1:=qb x1
        have j2:=qb x2
        clear x0 x1 x2
        simp only [sel]
        repeat (go_big_quiet_step (fail))
        exact wpQuiet_nil rfl
       have HS1:=q9 (Sq.take zh HO5 (j+1) Lb)
       have HS2:=q9 (Sq.drop zh HO5 (j+1) Lb)
       have HT:=q9 (show (out.take (j+1)).length<=1000/\(out.drop (j+1)).length<=1000/\Tt out x=out.take (j+1)++[x]++out.drop (j+1) from ⟨by have:=HN.out;simp;omega,by have:=HN.out;simp;omega,by unfold Tt;rw [hp,HP.out]⟩)
       generalize out.take (j+1)=T1 at HS1 HT
       generalize out.drop (j+1)=T2 at HS2 HT
       refine jd [3,8] Le Lc (fun w10 F10 m hm o ho=>?_)
       have G:=F2'.trans F10
       clear F10 F2'
       simp only [List.mem_cons,List.not_mem_nil,or_false] at hm
       rcases hm with rfl | rfl
       focus
        obtain rfl:=qi ho
        have S1':=HS1.out.up G
        go_wp2_with (at_builtin;refine qq zh rfl _ _ 129 rfl Tryz.underlying129 itI rfl (B:=w5.heap.size) (.slice none 0 0) [] rfl ⟨rfl,.inl ⟨rfl,rfl⟩⟩ _ T1 rfl S1' Lt Lg G.size ?_;intro a21 c21 w21 r21 f21)
        rw [List.nil_append] at r21
        replace G:=G.trans f21
        clear f21 S1'
        refine ql ⟨G,?_⟩
        refine eoq 8 (fun w11 F11=>?_)
        have r11:=qo r21 F11
        replace G:=G.trans F11
        clear r21 F11
        go_wp2_with fail
        have F12:=(Fr.refl [] w11).alloc (.cells #[.int .i64 x.k,.int .i64 x.v,.int .i64 x.d] 148)
        have B21:=Go.heap_alloc_new w11 (.cells #[.int .i64 x.k,.int .i64 x.v,.int .i64 x.d] 148)
        have r21:=qo r11 F12
        replace G:=G.trans F12
        clear r11 F12 ho
       rotate_left
       focus
        obtain rfl:=qi ho
        go_wp2_with fail
        have F12:=(Fr.refl [] w10).alloc (.cells #[.int .i64 x.k,.int .i64 x.v,.int .i64 x.d] 148)
        have B12:=Go.heap_alloc_new w10 (.cells #[.int .i64 x.k,.int .i64 x.v,.int .i64 x.d] 148)
        replace G:=G.trans F12
        clear F12 ho
        refine ql ⟨G,?_⟩
        refine eoq 3 (fun w11 F11=>?_)
        have B13:=F11.heap B12 Lc
        replace G:=G.trans F11
        clear B12 F11
        have S1':=HS1.out.up G
        go_wp2_with (at_builtin;refine qq zh rfl _ _ 129 rfl Tryz.underlying129 itI rfl (B:=w5.heap.size) (.slice none 0 0) [] rfl ⟨rfl,.inl ⟨rfl,rfl⟩⟩ _ T1 rfl S1' Lt Lg G.size ?_;intro a21 c21 w21 r21 f21)
        rw [List.nil_append] at r21
        have B21:=Fr.heap f21 B13 Lp
        replace G:=G.trans f21
        clear f21 B13 S1'
       rotate_left
       all_goals
        refine ql ⟨G,?_⟩
        refine eoq 9 (fun w13 F13=>?_)
        have r22:=qo r21 F13
        have B22:=F13.heap B21 Lc
        replace G:=G.trans F13
        clear r21 B21 F13
        go_wp2_with (at_builtin;refine qq zh rfl _ _ 129 rfl Tryz.underlying129 itI rfl (B:=w5.heap.size) _ T1 rfl r22 _ [x] rfl (Sq.block B22 rfl rfl (Nat.le_refl _) Lm) Lt Lg G.size ?_;intro a23 c23 w23 r23 f23;generalize hT3:T1++[x]=T3 at r23 ⊢)
        replace G:=G.own f23 (z8 r22)
        clear f23 r22 B22
        refine ql ⟨G,?_⟩
        refine eoq 13 (fun w14 F14=>?_)
        have r24:=qo r23 F14
        replace G:=G.trans F14
        clear r23 F14
        have S2':=HS2.out.up G
        go_wp2_with (at_builtin;refine qq zh rfl _ _ 129 rfl Tryz.underlying129 itI rfl (B:=w5.heap.size) _ T3 rfl r24 _ T2 rfl S2' N8 Lg G.size ?_;intro a25 c25 w25 r25 f25;generalize hT4:T3++T2=T4 at r25 ⊢)
        replace G:=G.own f25 (z8 r24)
        clear f25 r24 S2'
        refine ql ⟨G,?_⟩
        refine eoq 14 (fun w15 F15=>?_)
        have r26:=qo r25 F15
        replace G:=G.trans F15
        clear r25 F15
        go_wp2
        refine ql ⟨G,?_⟩
        refine zr Le (fun w16 F16=>?_)
        have r27:=qo r26 F16
        replace G:=G.trans F16
        clear r26 F16
        have e26:Zd (l.take (i+1))=T4:=by rw [HN.out.1,HT.out.2.2,hT3,hT4]
        rw [<- e26] at r27 ⊢
        have r28:=kw r27 FW.size
        go_wp2
        exact ⟨⟨i+1,by omega,by go_num,r28,FW.trans G⟩,by simp [intOf];omega⟩
      have hje:j+1=out.length:=by omega
      go_wp2_with fail
      have FW:=(F.trans F2).trans F5
      have HO5:=HO.up (F2.trans F5)
      have HL5:=q9 (h.up FW)
      refine z7 Le [] (fun w2 F2'=>?_)
      refine epq [true,true,true,false,true,true,true,true,false,false,true,true,true,false,false] 5 F2' ?_
      apply qg
      refine ⟨fun wf Ff=>?_,?_⟩
      ·obtain ⟨gl',ol',hgl,x0,x1,x2⟩:=xk (HL5.out.up Ff) hx
       simp only [Option.some.injEq,Addr.mk.injEq] at hgl
       obtain ⟨rfl,rfl,-⟩:=hgl
       have j0:=qb x0
       have j1:=qb x1
       have j2:=qb x2
       clear x0 x1 x2
       simp only [sel]
       repeat (go_big_quiet_step (fail))
       exact wpQuiet_nil rfl
      have hc2:co - out.length<=maxLen:=by omega
      generalize co - out.length=c2 at hc2 ⊢
      generalize (if co=out.length then some (⟨go,oo,none⟩:Addr) else some (⟨go,oo+out.length * 3,none⟩:Addr))=a2
      have HS1:=q9 (HO5)
      have HS2:=q9 (Sq.empty (f:=fT) w5 a2 hc2)
      have hend:Ye out x out.length=out.length:=by have:=HP.out;rw [hje] at this;exact this
      obtain ⟨T1,hT1⟩:∃ T1,T1=out:=⟨out,rfl⟩
      have HT:=q9 (show T1.length<=1000/\([]:List It).length<=1000/\Tt out x=T1++[x]++[] from ⟨by rw [hT1];have:=HN.out;omega,by simp,by rw [hT1];unfold Tt;rw [hend,List.take_length,List.drop_length]⟩)
      have HS1:=q9 (show Sq fT w5 (.slice (some ⟨go,oo,none⟩) T1.length co) T1 by rw [hT1];exact HO5)
      rw [<- hT1]
      have HT1:=q9 hT1
      clear hT1 hend
      refine jd [3,8] Le Lc (fun w10 F10 m hm o ho=>?_)
      have G:=F2'.trans F10
      clear F10 F2'
      simp only [List.mem_cons,List.not_mem_nil,or_false] at hm
      rcases hm with rfl | rfl
      focus
       obtain rfl:=qi ho
       have S1':=HS1.out.up G
       go_wp2_with (at_builtin;refine qq zh rfl _ _ 129 rfl Tryz.underlying129 itI rfl (B:=w5.heap.size) (.slice none 0 0) [] rfl ⟨rfl,.inl ⟨rfl,rfl⟩⟩ _ T1 rfl S1' Lt Lg G.size ?_;intro a21 c21 w21 r21 f21)
       rw [List.nil_append] at r21
       replace G:=G.trans f21
       clear f21 S1'
       refine ql ⟨G,?_⟩
       refine eoq 8 (fun w11 F11=>?_)
       have r11:=qo r21 F11
       replace G:=G.trans F11
       clear r21 F11
       go_wp2_with fail
       have F12:=(Fr.refl [] w11).alloc (.cells #[.int .i64 x.k,.int .i64 x.v,.int .i64 x.d] 148)
       have B21:=Go.heap_alloc_new w11 (.cells #[.int .i64 x.k,.int .i64 x.v,.int .i64 x.d] 148)
       have r21:=qo r11 F12
       replace G:=G.trans F12
       clear r11 F12 ho
      rotate_left
      focus
       obtain rfl:=qi ho
       go_wp2_with fail
       have F12:=(Fr.refl [] w10).alloc (.cells #[.int .i64 x.k,.int .i64 x.v,.int .i64 x.d] 148)
       have B12:=Go.heap_alloc_new w10 (.cells #[.int .i64 x.k,.int .i64 x.v,.int .i64 x.d] 148)
       replace G:=G.trans F12
       clear F12 ho
       refine ql ⟨G,?_⟩
       refine eoq 3 (fun w11 F11=>?_)
       have B13:=F11.heap B12 Lc
       replace G:=G.trans F11
       clear B12 F11
       have S1':=HS1.out.up G
       go_wp2_with (at_builtin;refine qq zh rfl _ _ 129 rfl Tryz.underlying129 itI rfl (B:=w5.heap.size) (.slice none 0 0) [] rfl ⟨rfl,.inl ⟨rfl,rfl⟩⟩ _ T1 rfl S1' Lt Lg G.size ?_;intro a21 c21 w21 r21 f21)
       rw [List.nil_append] at r21
       have B21:=Fr.heap f21 B13 Lp
       replace G:=G.trans f21
       clear f21 B13 S1'
      rotate_left
      all_goals
       refine ql ⟨G,?_⟩
       refine eoq 9 (fun w13 F13=>?_)
       have r22:=qo r21 F13
       have B22:=F13.heap B21 Lc
       replace G:=G.trans F13
       clear r21 B21 F13
       go_wp2_with (at_builtin;refine qq zh rfl _ _ 129 rfl Tryz.underlying129 itI rfl (B:=w5.heap.size) _ T1 rfl r22 _ [x] rfl (Sq.block B22 rfl rfl (Nat.le_refl _) Lm) Lt Lg G.size ?_;intro a23 c23 w23 r23 f23;generalize hT3:T1++[x]=T3 at r23 ⊢)
       replace G:=G.own f23 (z8 r22)
       clear f23 r22 B22
       refine ql ⟨G,?_⟩
       refine eoq 13 (fun w14 F14=>?_)
       have r24:=qo r23 F14
       replace G:=G.trans F14
       clear r23 F14
       have S2':=HS2.out.up G
       go_wp2_with (at_builtin;refine qq zh rfl _ _ 129 rfl Tryz.underlying129 itI rfl (B:=w5.heap.size) _ T3 rfl r24 _ ([]:List It) rfl S2' N8 Lg G.size ?_;intro a25 c25 w25 r25 f25;generalize hT4:T3++([]:List It)=T4 at r25 ⊢)
       replace G:=G.own f25 (z8 r24)
       clear f25 r24 S2'
       refine ql ⟨G,?_⟩
       refine eoq 14 (fun w15 F15=>?_)
       have r26:=qo r25 F15
       replace G:=G.trans F15
       clear r25 F15
       go_wp2
       refine ql ⟨G,?_⟩
       refine zr Le (fun w16 F16=>?_)
       have r27:=qo r26 F16
       replace G:=G.trans F16
       clear r26 F16
       have e26:Zd (l.take (i+1))=T4:=by rw [HN.out.1,HT.out.2.2,hT3,hT4]
       rw [<- e26] at r27 ⊢
       have r28:=kw r27 FW.size
       go_wp2
       exact ⟨⟨i+1,by omega,by go_num,r28,FW.trans G⟩,by simp [intOf];omega⟩
  ·obtain rfl:i=l.length:=by omega
   rw [List.take_length] at hr;have HR:=q9 hr;obtain ⟨ao,co,rfl,-,-⟩:=Qn hr;exact Hh
def fI (x:Int):List Value:=[.int .i64 x]
theorem yj:Lays fI 1:=⟨fun _=>rfl,fun x u hu=>by rw [List.mem_singleton.1 hu];rfl,by decide⟩
theorem q6z:(Tryz.prog.info? 3).map (fun i=>(i.zero,i.size,i.bytes))=some (some (.int .i64 0),1,8):=by kernel_rfl
theorem Zx {w:World} {a:Option Addr} {n cap i:Nat} {xs:List Int} {x:Int} (h:Sq fI w (.slice a n cap) xs) (hi:xs[i]? = some x) :
  ∃ g off,a=some ⟨g,off,none⟩/\w.cell? ⟨g,off+i,none⟩=some (.int .i64 x):=by
 obtain ⟨-,g,off,rfl,hc⟩:=Sq.cell yj h hi;exact ⟨g,off,rfl,by simpa using hc 0 _ rfl⟩
def Xr (x:It) (nx:Option It) (vs:List Int):Bool :=
 nx.all (fun y=>y.k != x.k) || vs.any fun v=>decide (x.v<=v) && (nx.all (fun y=>y.k != x.k) || nx.any fun y=>decide (v<y.v))
def Zi (vs:List Int):List It->List It
 | []=>[]
 | x :: r=>if Xr x r.head? vs=true then x :: Zi vs r else Zi vs r
def Yf (l:List It) (vs:List Int):List It:=Zi vs (Zd l)
end Go.Proofs.YtleclbldlladmaaGreat.Mx
namespace Go.Proofs.YtleclbldlladmaaGreat.Mx
def jy (half:Int):Nat->List It->List (List It)->List It->List (List It)
 | 0,_,out,cur=>out++[cur]
 | n+1,l,out,cur =>
  match l with
  | []=>out++[cur]
  | x :: r =>
   let run:=x :: r.takeWhile (fun y=>y.k == x.k)
   if cur≠[]/\half<(cur.length:Int)+run.length then jy half n (r.dropWhile (fun y=>y.k == x.k)) (out++[cur]) run
   else jy half n (r.dropWhile (fun y=>y.k == x.k)) out (cur++run)
def Xy (cells:Int):Int:=max 2 (min cells 16) / 2
def xy (l:List It) (cells:Int):List (List It):=jy (Xy cells) l.length l [] []
def xg (least:Int) (gs:List (List It)):List Int :=
 match gs with
 | []=>[]
 | _ :: r=>least :: r.map fun g=>(g.head?.map It.k).getD 0
end Go.Proofs.YtleclbldlladmaaGreat.Mx
namespace Go.Proofs.YtleclbldlladmaaGreat.Mx
open Go.RowKit Ar
structure Nk where
 at_:Int
 mn:Int
 ct:Int
 nx:Int
 its:List It
def jf (c:Cf) (at_ after:Int):List (List It)->List Int->List Nk
 | [],_=>[]
 | g :: r,ms=>⟨at_,ms.headD 0,g.length,jh (if r=[] then after else wrap64 (at_+z6 c)) false,g⟩ :: jf c (wrap64 (at_+z6 c)) after r ms.tail
def yf (c:Cf) (at_ after least:Int) (gs:List (List It)):List Nk :=
 if gs.all (fun g=>decide ((g.length:Int)<=c.c))=true then jf c at_ after gs (xg least gs) else []
def yc (at_:Int):Nat->List It->List (Int×Int)
 | _,[]=>[]
 | k,y :: r=>(Qo at_ k,vu y.v) :: (wrap64 (Qo at_ k+1),y.k) :: (wrap64 (Qo at_ k+2),y.d) :: yc at_ (k+1) r
def Qy (x:Nk):List (Int×Int):=(wrap64 x.at_,x.mn) :: (wrap64 (x.at_+1),x.ct) :: (wrap64 (x.at_+2),x.nx) :: yc x.at_ 0 x.its
def yg (l:List Nk):List (Int×Int):=l.flatMap Qy
theorem V3 (at_:Int):∀ (l:List It) (k:Nat),(yc at_ k l).length=3 * l.length
 | [],_=>rfl
 | y :: r,k=>by unfold yc;simp only [List.length_cons,V3 at_ r];omega
theorem J3 (at_:Int) (y:It):∀ (l:List It) (k:Nat),yc at_ k (l++[y])=yc at_ k l++[(Qo at_ ((k+l.length:Nat):Int),vu y.v),(wrap64 (Qo at_ ((k+l.length:Nat):Int)+1),y.k),(wrap64 (Qo at_ ((k+l.length:Nat):Int)+2),y.d)]
 | [],k=>rfl
 | z :: r,k=>by
  rw [List.cons_append];unfold yc;rw [J3 at_ y r (k+1),List.length_cons,show k+1+r.length=k+(r.length+1) by omega];rfl
theorem q18 {ns:List Nk} {i:Nat} {n:Nk} (h:ns[i]? = some n):yg (ns.take (i+1))=yg (ns.take i)++Qy n:=by unfold yg;rw [List.take_add_one,h,Option.toList_some,List.flatMap_append];simp
theorem Y6 (v:Int):3<=vu v:=by unfold vu hd;omega
theorem yp (c:Cf) (after:Int):∀ (gs:List (List It)) (at_:Int) (ms:List Int),(jf c at_ after gs ms).length=gs.length
 | [],_,_=>rfl
 | g :: r,at_,ms=>by unfold jf;rw [List.length_cons,yp c after r];rfl
theorem Yu {c:Cf} (after:Int) (hc0:0<=z6 c):∀ (gs:List (List It)) (at_:Int) (ms:List Int) (i:Nat) (g:List It) (m:Int),0<=at_->at_+z6 c * (gs.length:Int)<=4611686018427387904->gs[i]? = some g->ms[i]? = some m ->
  (jf c at_ after gs ms)[i]? = some ⟨at_+z6 c * (i:Int),m,(g.length:Int),jh (if i+1=gs.length then after else at_+z6 c * ((i:Int)+1)) false,g⟩
 | [],_,_,i,g,m,_,_,hg,_=>by simp at hg
 | a :: r,at_,ms,i,g,m,h0,hb,hg,hm=>by
  have hlen:z6 c * (((a :: r).length:Nat):Int)=z6 c * (r.length:Int)+z6 c:=by rw [List.length_cons,Int.natCast_add,Int.mul_add];simp
  have hrl:0<=z6 c * (r.length:Int):=Int.mul_nonneg hc0 Lb;rw [hlen] at hb;have hw:wrap64 (at_+z6 c)=at_+z6 c:=w64 Lb Lb;unfold jf;rw [hw];cases i with
  | zero =>
   obtain rfl:a=g:=by simpa using hg
   have hmm:ms.headD 0=m:=by cases ms <;> simp_all
   rw [List.getElem?_cons_zero,hmm];congr 2
   ·simp
   ·congr 1;by_cases hr:r=[]
    ·subst hr;simp
    ·exact Gd
  | succ i =>
   rw [List.getElem?_cons_succ];have hm':ms.tail[i]? = some m:=by cases ms <;> simp_all
   rw [Yu after hc0 r (at_+z6 c) ms.tail i g m Lb Lb (by simpa using hg) hm'];have e1:at_+z6 c+z6 c * (i:Int)=at_+z6 c * ((i+1:Nat):Int):=by rw [Int.natCast_add,Int.mul_add];simp;omega
   have e2:at_+z6 c+z6 c * ((i:Int)+1)=at_+z6 c * (((i+1:Nat):Int)+1):=by rw [Int.natCast_add,Int.mul_add,Int.mul_add,Int.mul_add];simp;omega
   rw [e1,e2,List.length_cons];exact Ft
def KepAt (w:World) (s:List It) (vs:List Int) (u x:Value) (wr:World):Prop:=∃ i out,i<=s.length/\x = .int .i64 (i:Nat)/\out.length<=i/\wr.ownsRow w.heap.size 148 3 u out.length (out.flatMap fT)/\Fr [] w wr/\out++Zi vs (s.drop i)=Zi vs s
def qb1 (wr:World) (vs:List Int) (last:Bool) (P:Int->Bool) (u x:Value) (w':World):Prop:=∃ k,k<=vs.length/\x = .int .i64 (k:Nat)/\u = .bool (last || (vs.take k).any P)/\Fr [] wr w'
theorem Un {P:Int->Bool} {vs:List Int} {k:Nat} {z:Int} (hz:vs[k]? = some z):(vs.take (k+1)).any P=((vs.take k).any P || P z):=by rw [List.take_add_one,hz,Option.toList_some,List.any_append];simp
theorem q7x {vs:List Int} {s:List It} {i:Nat} {x:It} (hx:s[i]? = some x):Zi vs (s.drop i)=if Xr x s[i+1]? vs=true then x :: Zi vs (s.drop (i+1)) else Zi vs (s.drop (i+1)):=by obtain ⟨hi,rfl⟩:=List.getElem?_eq_some_iff.1 hx;rw [List.drop_eq_getElem_cons hi];show (if Xr _ (s.drop (i+1)).head? vs=true then _ else _)=_;rw [List.head?_drop]
theorem q7u (l:List It) (vs:List Int) (v u:Value) (w:World) (hl:l.length<=1000) (hvl:vs.length<=1000) (h:Sq fT w v l) (hv:Sq fI w u vs) :
  Calls Tryz.prog 144 #[v,u] w fun e w'=>(∃ r,e = .returned r/\w'.ownsRow w.heap.size 148 3 r (Yf l vs).length ((Yf l vs).flatMap fT))/\Fr [] w w':=by
 unfold Yf;obtain ⟨av,cv,rfl,hcv,hmv,-⟩:=id hv;go_enter Tryz.func144,Tryz.ntmps144;go_wp2_with fail;refine (q9c l v w hl h).mono ?_;rintro e w1 ⟨⟨u1,rfl,r1⟩,F1⟩;have hs1:(Zd l).length<=1000:=by rw [Xf];exact hl
 generalize hso:Zd l=s at *;have HSO:=q9 hso;clear hso;obtain ⟨asl,csl,rfl,hcs,hms,-⟩:=id (Sq.own (f:=fT) r1);have S1:=Sq.own (f:=fT) r1;have hv1:=hv.up F1;have HF1:=q9 F1;clear r1 h hv F1;go_wp2_with fail;go_loopw [6,7] (KepAt w1 s vs) (fun _ x _=>s.length - (intOf x).toNat);case atStart=>exact ⟨0,[],by omega,rfl,by simp,⟨rfl,.inl ⟨rfl,rfl⟩⟩,Fr.refl _ _,by simp⟩
 case round =>
  obtain ⟨i,out,hi,rfl,ho,hr,F,hk⟩:=hrel;by_cases hlt:i<s.length
  ·obtain ⟨x,hx⟩:∃ x,s[i]? = some x:=⟨s[i],List.getElem?_eq_getElem hlt⟩;have hS:=S1.up F;obtain ⟨gs,os,rfl,x0,x1,x2⟩:=xk hS hx;rw [q7x hx] at hk;obtain ⟨ao,co,rfl,hco,hcm,-⟩:=id (Sq.own (f:=fT) hr);have HK:=q9 hk;clear hk;by_cases hE:i+1=s.length
   ·have hn:s[i+1]? = none:=List.getElem?_eq_none Lb;have hkb:Xr x s[i+1]? vs=true:=by rw [hn];simp [Xr]
    have HKB:=q9 hkb;have g1:(((i:Nat):Int)+1 == ((s.length:Nat):Int))=true:=by simp;omega
    clear hkb hn;go_wp2_with fail;have k0:=qb x0;skip;refine wiq ?_;repeat (go_big_quiet_step (fail))
    refine wpQuiet_nil ?_;intro w5 F5;clear k0;go_wp2_with fail;have HFF:=q9 (F.trans F5);have r5:=q9 (qo hr F5);have x0:=F5.cell x0 Lc;have x1:=F5.cell x1 Lc;have x2:=F5.cell x2 Lc;skip;exact Ac
   ·obtain ⟨y,hy⟩:∃ y,s[i+1]? = some y:=⟨s[i+1],List.getElem?_eq_getElem Lb⟩;obtain ⟨gs',os',hgs,y0,y1,-⟩:=xk hS hy;simp only [Option.some.injEq,Addr.mk.injEq] at hgs;obtain ⟨rfl,rfl,-⟩:=hgs;by_cases hD:¬ y.k=x.k
    ·have hkb:Xr x s[i+1]? vs=true:=by rw [hy];simp [Xr,hD]
     have g2:(y.k == x.k)=false:=by simpa using hD
     have g3:(y.k != x.k)=true:=by simpa using hD
     have HKB:=q9 hkb;have HD:=q9 hD;have g1:(((i:Nat):Int)+1 == ((s.length:Nat):Int))=false:=by simp;omega
     clear hkb hD;go_wp2_with fail;have k0:=qb x0;have j0:=qb y0;refine wiq ?_;repeat (go_big_quiet_step (fail))
     refine wpQuiet_nil ?_;intro w5 F5;clear k0 j0;go_wp2_with fail;have HFF:=q9 (F.trans F5);have r5:=q9 (qo hr F5);have x0:=F5.cell x0 Lc;have x1:=F5.cell x1 Lc;have x2:=F5.cell x2 Lc;have y1:=F5.cell y1 Lc;exact Ac
    ·have hkb:Xr x s[i+1]? vs=vs.any (fun z=>decide (x.v<=z) && decide (z<y.v)):=by rw [hy];have hD:=Classical.not_not.1 hD;simp [Xr,hD]
     have g2:(y.k == x.k)=true:=by simpa using Classical.not_not.1 hD
     have g3:(y.k != x.k)=false:=by simpa using Classical.not_not.1 hD
     have HKB:=q9 hkb;have HD:=q9 hD;have g1:(((i:Nat):Int)+1 == ((s.length:Nat):Int))=false:=by simp;omega
     clear hkb hD;go_wp2_with fail;have k0:=qb x0;have j0:=qb y0;refine wiq ?_;repeat (go_big_quiet_step (fail))
     refine wpQuiet_nil ?_;intro w5 F5;clear k0 j0;go_wp2_with fail;have HFF:=q9 (F.trans F5);have r5:=q9 (qo hr F5);have x0:=F5.cell x0 Lc;have x1:=F5.cell x1 Lc;have x2:=F5.cell x2 Lc;have y1:=F5.cell y1 Lc;have HV5:=q9 (hv1.up HFF.out);go_loopw [9,10] (qb1 w5 vs false (fun z=>decide (x.v<=z) && decide (z<y.v))) (fun _ x _=>vs.length - (intOf x).toNat);case atStart=>exact ⟨0,Nat.zero_le _,rfl,by simp,Fr.refl _ _⟩
     case round =>
      obtain ⟨k,hk,rfl,hu,F6⟩:=hrel;by_cases hkl:k<vs.length
      ·obtain ⟨z,hz⟩:∃ z,vs[k]? = some z:=⟨vs[k],List.getElem?_eq_getElem hkl⟩;have hmore:=Un (P:=(fun z=>decide (x.v<=z) && decide (z<y.v))) hz;have HM:=q9 hmore;clear hmore;have HF6:=q9 F6;by_cases hP:(vs.take k).any (fun z=>decide (x.v<=z) && decide (z<y.v))=true
       ·have hu':=hu.trans (show _=Value.bool true by rw [hP];rfl);subst hu';clear hu;have HP:=q9 hP;clear hP F6;go_wp2_with fail;refine wiq ?_;repeat (go_big_quiet_step (fail))
        refine wpQuiet_nil ?_;intro w7 F7;go_wp2_with fail;go_roundw;case rel=>exact ⟨k+1,by omega,by go_num,by rw [HM.out,HP.out];rfl,HF6.out.trans F7⟩
        case measure=>simp [intOf];omega
       ·rw [Bool.not_eq_true] at hP;have hu':=hu.trans (show _=Value.bool false by rw [hP];rfl);subst hu';clear hu;have HP:=q9 hP;clear hP;have y1:=qb (F6.cell y1 Lc);have x1:=qb (F6.cell x1 Lc);obtain ⟨gv,ov,rfl,z0⟩:=Zx (HV5.out.up F6) hz;have z0:=qb z0;clear F6;by_cases ha:x.v<=z
        ·have g5:decide (x.v<=z)=true:=by simpa using ha
         have HA:=q9 ha;clear ha;by_cases hb:z<y.v
         ·have g6:decide (y.v>z)=true:=by simpa using hb
          have HB:=q9 hb;clear hb;go_wp2_with fail;refine wiq ?_;repeat (go_big_quiet_step (fail))
          refine wpQuiet_nil ?_;intro w7 F7;go_wp2_with fail;go_roundw;case rel=>exact ⟨k+1,by omega,by go_num,by rw [HM.out,HP.out];simp [HA.out,HB.out],HF6.out.trans F7⟩
          case measure=>simp [intOf];omega
         ·have g6:decide (y.v>z)=false:=by simpa using hb
          have HB:=q9 hb;clear hb;go_wp2_with fail;refine wiq ?_;repeat (go_big_quiet_step (fail))
          refine wpQuiet_nil ?_;intro w7 F7;go_wp2_with fail;go_roundw;case rel=>exact ⟨k+1,by omega,by go_num,by rw [HM.out,HP.out];simp only [decide_eq_false (Int.not_lt.2 HB.out),Bool.and_false];rfl,HF6.out.trans F7⟩
          case measure=>simp [intOf];omega
        ·have g5:decide (x.v<=z)=false:=by simpa using ha
         have HA:=q9 ha;clear ha;go_wp2_with fail;refine wiq ?_;repeat (go_big_quiet_step (fail))
         refine wpQuiet_nil ?_;intro w7 F7;go_wp2_with fail;go_roundw;case rel=>exact ⟨k+1,by omega,by go_num,by rw [HM.out,HP.out];simp only [decide_eq_false (Int.not_le.2 HA.out),Bool.false_and];rfl,HF6.out.trans F7⟩
         case measure=>simp [intOf];omega
      ·obtain rfl:k=vs.length:=by omega
       rw [List.take_length] at hu;by_cases hq:vs.any (fun z=>decide (x.v<=z) && decide (z<y.v))=true
       ·have hu':=hu.trans (show _=Value.bool true by rw [hq];rfl);subst hu';clear hu;have HQ:=q9 hq;clear hq;have x0:=F6.cell x0 Lc;have x1:=F6.cell x1 Lc;have x2:=F6.cell x2 Lc;have HFG:=q9 (HFF.out.trans F6);have r6:=qo r5.out F6;have F12:=(Fr.refl [] wr).alloc (.cells #[.int .i64 x.k,.int .i64 x.v,.int .i64 x.d] 148);have B12:=Go.heap_alloc_new wr (.cells #[.int .i64 x.k,.int .i64 x.v,.int .i64 x.d] 148);have r12:=qo r6 F12;have HG:=q9 (HFG.out.trans F12);clear r6 F12 F6;go_wp2_with (at_builtin;refine qq zh rfl _ _ 129 rfl Tryz.underlying129 itI rfl (B:=w1.heap.size) _ out rfl r12 _ [x] rfl (Sq.block B12 rfl rfl (Nat.le_refl _) Lm) Ll Lg HG.out.size ?_;intro a21 c21 w21 r21 f21);have HR:=q9 (show w21.ownsRow w1.heap.size 148 3 (.slice a21 (out.length+1) c21) (out++[x]).length ((out++[x]).flatMap fT) by rw [show (Value.slice a21 (out++[x]).length c21)=Value.slice a21 (out.length+1) c21 by simp] at r21;exact r21);have HG2:=q9 (HG.out.own f21 (z8 r12));clear r21 f21 r12 B12;go_wp2_with fail;go_roundw;case rel=>exact ⟨i+1,out++[x],by omega,by go_num,by simp;omega,HR.out,HG2.out,by rw [<- HK.out,HKB.out,HQ.out];simp⟩
        case measure=>simp [intOf];omega
       ·rw [Bool.not_eq_true] at hq;have hu':=hu.trans (show _=Value.bool false by rw [hq];rfl);subst hu';clear hu;have HQ:=q9 hq;clear hq;have HR:=q9 (qo r5.out F6);have HG2:=q9 (HFF.out.trans F6);clear F6;go_wp2_with fail;go_roundw;case rel=>exact ⟨i+1,out,by omega,by go_num,by omega,HR.out,HG2.out,by rw [<- HK.out,HKB.out,HQ.out];simp⟩
        case measure=>simp [intOf];omega
  ·obtain rfl:i=s.length:=by omega
   rw [List.drop_length] at hk;have hk':out=Zi vs s:=by rw [<- hk];simp [Zi]
   rw [hk'] at hr;have HR:=q9 (kw hr HF1.out.size);have HG:=q9 (HF1.out.trans F);obtain ⟨ao,co,rfl,-,-⟩:=Qn hr;clear hk' hk hr F;go_wp2_with fail;go_ret;rw [HSO.out];exact ⟨⟨_,rfl,HR.out⟩,HG.out⟩
structure Sv where
 a:Option Addr
 n:Nat
 c:Nat
def Sv.v (s:Sv):Value:=.slice s.a s.n s.c
def fS (s:Sv):List Value:=[s.v]
theorem Tc:Lays fS 1:=⟨fun _=>rfl,fun x u hu=>by rw [List.mem_singleton.1 hu];rfl,by decide⟩
theorem svI:(Tryz.prog.info? 129).map (fun i=>(i.zero,i.size,i.bytes))=some (some (.slice none 0 0),1,24):=by kernel_rfl
def Gs (w:World) (ss:List Sv) (gs:List (List It)):Prop:=ss.length=gs.length/\∀ (i:Nat) (s:Sv) (g:List It),ss[i]? = some s->gs[i]? = some g->Sq fT w s.v g
theorem Gs.kept {S:List Nat} {w w':World} {ss:List Sv} {gs:List (List It)} (h:Gs w ss gs) (k:Fr S w w') (hS:∀ s,s∈ss->∀ g,g∈s.v.ownBlock.toList->g∉S):Gs w' ss gs :=
 ⟨h.1,fun i s g e1 e2=>(h.2 i s g e1 e2).kept k (hS s (List.mem_of_getElem? e1))⟩
theorem Gs.up {w w':World} {ss:List Sv} {gs:List (List It)} (h:Gs w ss gs) (k:Fr [] w w'):Gs w' ss gs:=h.kept k Lc
theorem Gs.one {w:World} {ss:List Sv} {gs:List (List It)} (h:Gs w ss gs) {i:Nat} {g:List It} (hi:gs[i]? = some g):∃ s,ss[i]? = some s/\s.n=g.length/\Sq fT w s.v g:=by have hlt:=(List.getElem?_eq_some_iff.1 hi).1;have e1:ss[i]? = some (ss[i]'(by rw [h.1];exact hlt)):=List.getElem?_eq_getElem _;have hs:=h.2 i _ g e1 hi;refine ⟨_,e1,?_,hs⟩;obtain ⟨a',c',e,-⟩:=hs;unfold Sv.v at e;simp only [Value.slice.injEq] at e;exact e.2.1
theorem Kv {w:World} {a:Option Addr} {n cap i:Nat} {xs:List Sv} {x:Sv} (h:Sq fS w (.slice a n cap) xs) (hi:xs[i]? = some x) :
  ∃ g off,a=some ⟨g,off,none⟩/\w.cell? ⟨g,off+i,none⟩=some (.slice x.a x.n x.c):=by
 obtain ⟨-,g,off,rfl,hc⟩:=Sq.cell Tc h hi;exact ⟨g,off,rfl,by have:=hc 0 x.v rfl;rw [Nat.mul_one,Nat.add_zero] at this;exact this⟩
theorem J0 (least:Int) (gs:List (List It)):(xg least gs).length=gs.length:=by cases gs <;> simp [xg]
theorem q27 (least:Int) {gs:List (List It)} {i:Nat} {g:List It} (hi:gs[i]? = some g):(xg least gs)[i]? = some (if i=0 then least else (g.head?.map It.k).getD 0):=by
 cases gs with
 | nil=>simp at hi
 | cons y r =>
  cases i with
  | zero=>rfl
  | succ i =>
   rw [List.getElem?_cons_succ] at hi;show (least :: r.map _)[i+1]? = _;rw [List.getElem?_cons_succ,List.getElem?_map,hi];rfl
def MinAt (w:World) (ms:List Int) (u x:Value) (wr:World):Prop:=∃ i,i<=ms.length/\x = .int .i64 (i:Nat)/\wr.ownsRow w.heap.size 3 1 u (ms.take i).length ((ms.take i).flatMap fI)/\Fr [] w wr
theorem q99 (least:Int) (gs:List (List It)) (ss:List Sv) (u:Value) (w:World) (hl:gs.length<=1000) (h:Sq fS w u ss) (hg:Gs w ss gs) :
  Calls Tryz.prog 145 #[.int .i64 least,u] w fun e w'=>(∃ r,e = .returned r/\w'.ownsRow w.heap.size 3 1 r (xg least gs).length ((xg least gs).flatMap fI))/\Fr [] w w':=by
 obtain ⟨av,cv,rfl,hcv,hmv,-⟩:=id h;have hml:=J0 least gs;have hsl:=hg.1;rw [hsl] at h hcv ⊢;have HAT:=q9 (fun i g=>@q27 least gs i g);generalize hms:xg least gs=ms at *;have HMS:=q9 hms;rw [<- hml] at h hcv ⊢;have hmk:ms.length<=1000:=by omega
 have HML:=q9 hml;clear hms hml hsl;go_enter Tryz.func145,Tryz.ntmps145;go_wp2_with fail;go_loopw [5,6] (MinAt w ms) (fun _ x _=>ms.length - (intOf x).toNat);case atStart=>exact ⟨0,by omega,rfl,⟨rfl,.inl ⟨rfl,rfl⟩⟩,Fr.refl _ _⟩
 case round =>
  obtain ⟨i,hi,rfl,hr,F⟩:=hrel;by_cases hlt:i<ms.length
  ·obtain ⟨g,hgi⟩:∃ g,gs[i]? = some g:=⟨gs[i]'(by have:=HML.out;omega),List.getElem?_eq_getElem _⟩;have hm:=HAT.out i g hgi;obtain ⟨s,hs1,hs2,hs3⟩:=(hg.up F).one hgi;obtain ⟨gb,ob,rfl,c0⟩:=Kv (h.up F) hs1;rw [hs2] at c0;have hs3':Sq fT wr (.slice s.a g.length s.c) g:=by rw [<- hs2];exact hs3
   obtain ⟨ao,co,rfl,hco,hcm,-⟩:=id (Sq.own (f:=fI) hr);have hlen:(ms.take i).length=i:=by rw [List.length_take];omega
   have hnx:∀ m,ms[i]? = some m->ms.take (i+1)=ms.take i++[m]:=fun m hm=>by rw [List.take_add_one,hm];rfl
   generalize ms.take i=out at *;have HL:=q9 hlen;clear hlen hs3;by_cases h0:i=0
   ·subst h0;rw [qf rfl] at hm;have hm:ms[0]? = some (least):=hm;have HNX:=q9 (hnx _ hm);have F12:=(Fr.refl [] wr).alloc (.cells #[.int .i64 (least)] 3);have B12:=Go.heap_alloc_new wr (.cells #[.int .i64 (least)] 3);have r12:=qo hr F12;have HG:=q9 (F.trans F12);clear F12 hnx hm;go_wp2_with (at_builtin;refine qq yj rfl _ _ 25 rfl Tryz.underlying25 q6z rfl (B:=w.heap.size) _ out rfl r12 _ [least] rfl (Sq.block B12 rfl rfl (Nat.le_refl _) Lm) Nn Lg HG.out.size ?_;intro a21 c21 w21 r21 f21);have HR:=q9 (show w21.ownsRow w.heap.size 3 1 (.slice a21 (out.length+1) c21) (out++[least]).length ((out++[least]).flatMap fI) by rw [show (Value.slice a21 (out++[least]).length c21)=Value.slice a21 (out.length+1) c21 by simp] at r21;exact r21);have HG2:=q9 (HG.out.own f21 (z8 r12));clear r21 f21 r12 B12;go_wp2_with fail;go_roundw;case rel=>exact ⟨0+1,by omega,by go_num,by rw [HNX.out];exact HR.out,HG2.out⟩
    case measure=>simp [intOf];omega
   ·rw [qd h0] at hm;cases g with
    | nil =>
     have g1:(((i:Nat):Int) == 0)=false:=by simp;omega
     have hm:ms[i]? = some ((0:Int)):=hm;have HNX:=q9 (hnx _ hm);have F12:=(Fr.refl [] wr).alloc (.cells #[.int .i64 ((0:Int))] 3);have B12:=Go.heap_alloc_new wr (.cells #[.int .i64 ((0:Int))] 3);have r12:=qo hr F12;have HG:=q9 (F.trans F12);clear F12 hnx hm;go_wp2_with (at_builtin;refine qq yj rfl _ _ 25 rfl Tryz.underlying25 q6z rfl (B:=w.heap.size) _ out rfl r12 _ [(0:Int)] rfl (Sq.block B12 rfl rfl (Nat.le_refl _) Lm) Nn Lg HG.out.size ?_;intro a21 c21 w21 r21 f21);have HR:=q9 (show w21.ownsRow w.heap.size 3 1 (.slice a21 (out.length+1) c21) (out++[(0:Int)]).length ((out++[(0:Int)]).flatMap fI) by rw [show (Value.slice a21 (out++[(0:Int)]).length c21)=Value.slice a21 (out.length+1) c21 by simp] at r21;exact r21);exact C8
    | cons z r =>
     have g1:(((i:Nat):Int) == 0)=false:=by simp;omega
     obtain ⟨gz,oz,ez,z0,-,-⟩:=xk hs3' (i:=0) (x:=z) rfl;rw [ez] at c0;simp only [Nat.zero_mul,Nat.add_zero] at z0;have hm:ms[i]? = some (z.k):=hm;have HNX:=q9 (hnx _ hm);have F12:=(Fr.refl [] wr).alloc (.cells #[.int .i64 (z.k)] 3);have B12:=Go.heap_alloc_new wr (.cells #[.int .i64 (z.k)] 3);have r12:=qo hr F12;have HG:=q9 (F.trans F12);clear F12 hnx hm;go_wp2_with (at_builtin;refine qq yj rfl _ _ 25 rfl Tryz.underlying25 q6z rfl (B:=w.heap.size) _ out rfl r12 _ [z.k] rfl (Sq.block B12 rfl rfl (Nat.le_refl _) Lm) Nn Lg HG.out.size ?_;intro a21 c21 w21 r21 f21);have HR:=q9 (show w21.ownsRow w.heap.size 3 1 (.slice a21 (out.length+1) c21) (out++[z.k]).length ((out++[z.k]).flatMap fI) by rw [show (Value.slice a21 (out++[z.k]).length c21)=Value.slice a21 (out.length+1) c21 by simp] at r21;exact r21);exact C8
  ·obtain rfl:i=ms.length:=by omega
   rw [List.take_length] at hr;have HR:=q9 hr;obtain ⟨ao,co,rfl,-,-⟩:=Qn hr;clear hr;exact Hh
end Go.Proofs.YtleclbldlladmaaGreat.Mx
namespace Go.Proofs.YtleclbldlladmaaGreat.Mx
open Go.RowKit Ar Ref
structure Lok where
 c:Cf
 chunk:Int
 lo:Int
 hi:Int
 most:Int
 line:Int
 i:Int
 count:Int
 s:Int
 k:Int
 g:Int
 lv:Value
 l:List It
def Lok.cells (x:Lok):Array Value:=#[.int .i64 x.c.t,.int .i64 x.c.c,.int .i64 x.c.wd,.int .i64 x.c.v,.int .i64 x.chunk,.int .i64 x.lo,.int .i64 x.hi,.int .i64 x.most,.int .i64 x.line,.int .i64 x.i,.int .i64 x.count,.int .i64 x.s,.int .i64 x.k,.int .i64 x.g,x.lv]
def vh (w:World) (b:Nat) (x:Lok):Prop:=Ob w b 144 x.cells
theorem qx {w:World} {b:Nat} {x:Lok} (h:vh w b x):w.cell? ⟨b,0,none⟩=some (.int .i64 x.c.t)/\w.cell? ⟨b,1,none⟩=some (.int .i64 x.c.c)/\w.cell? ⟨b,2,none⟩=some (.int .i64 x.c.wd)/\w.cell? ⟨b,3,none⟩=some (.int .i64 x.c.v)/\w.cell? ⟨b,4,none⟩=some (.int .i64 x.chunk)/\w.cell? ⟨b,5,none⟩=some (.int .i64 x.lo)/\w.cell? ⟨b,6,none⟩=some (.int .i64 x.hi)/\w.cell? ⟨b,7,none⟩=some (.int .i64 x.most)/\w.cell? ⟨b,8,none⟩=some (.int .i64 x.line)/\w.cell? ⟨b,9,none⟩=some (.int .i64 x.i)/\w.cell? ⟨b,10,none⟩=some (.int .i64 x.count)/\w.cell? ⟨b,11,none⟩=some (.int .i64 x.s)/\w.cell? ⟨b,12,none⟩=some (.int .i64 x.k)/\w.cell? ⟨b,13,none⟩=some (.int .i64 x.g)/\w.cell? ⟨b,14,none⟩=some (x.lv) :=
 ⟨h.cell rfl,h.cell rfl,h.cell rfl,h.cell rfl,h.cell rfl,h.cell rfl,h.cell rfl,h.cell rfl,h.cell rfl,h.cell rfl,h.cell rfl,h.cell rfl,h.cell rfl,h.cell rfl,h.cell rfl⟩
theorem qag {w:World} {b:Nat} {t:TypeId} {x0 x1 x2 x3:Value} (h:w.heap[b]? = some (.cells #[x0,x1,x2,x3] t (0,0))) :
  w.cell? ⟨b,0,none⟩=some x0/\w.cell? ⟨b,1,none⟩=some x1/\w.cell? ⟨b,2,none⟩=some x2/\w.cell? ⟨b,3,none⟩=some x3 :=
 ⟨by rw [cell_of_row _ _ _ _ _ _ h];rfl,by rw [cell_of_row _ _ _ _ _ _ h];rfl,by rw [cell_of_row _ _ _ _ _ _ h];rfl,by rw [cell_of_row _ _ _ _ _ _ h];rfl⟩
def Lok.new (c:Cf) (chunk lo hi most:Int):Lok:=⟨c,chunk,lo,hi,most,1,0,0,0,0,0,.slice none 0 0,[]⟩
def Lok.on (x:Lok):Lok:=if x.count<=x.i+1 then { x with i:=x.i+1,line:=0 } else { x with i:=x.i+1,line:=2 }
def Ve (l:List It) (key:Int):Option Nat:=l.findIdx? (fun y=>y.k == key)
def J8 (l:List It) (key:Int):Int:=match Ve l key with | some i=>(i:Int) | none=>-1
def q0a:List It->It->List It
 | [],x=>[x]
 | y :: r,x=>if y.k<x.k then y :: q0a r x else x :: y :: r
def q15 (l:List It) (x:It):List It:=match Ve l x.k with | some i=>l.set i x | none=>q0a l x
theorem q67 {l:List It} {x:It} {k:Nat} (hk:k<=l.length) (h1:∀ i y,i<k->l[i]? = some y->y.k<x.k) (h2:∀ y,l[k]? = some y->¬ y.k<x.k):q0a l x=l.take k++[x]++l.drop k:=by
 induction l generalizing k with
 | nil=>simp at hk;subst hk;rfl
 | cons y r ih =>
  unfold q0a;cases k with
  | zero=>rw [qd (h2 y rfl)];rfl
  | succ k =>
   exact Di
theorem q2x {l:List It} {key:Int} {i:Nat} {y:It} (hy:l[i]? = some y) (hk:y.k=key) (h:∀ j z,j<i->l[j]? = some z->z.k≠key):Ve l key=some i:=by
 unfold Ve;have hlt:=(List.getElem?_eq_some_iff.1 hy).1;rw [List.findIdx?_eq_some_iff_getElem];refine ⟨hlt,?_,fun j hj=>?_⟩
 ·have:l[i]=y:=(List.getElem?_eq_some_iff.1 hy).2;rw [this];simpa using hk
 ·exact Gq
theorem q47 {l:List It} {key:Int} (h:∀ (j:Nat) (z:It),l[j]? = some z->z.k≠key):Ve l key=none:=by unfold Ve;rw [List.findIdx?_eq_none_iff];exact Gl
theorem Ke (c:Cf) (chunk lo hi most:Int) (w:World):Calls Tryz.prog 93 #[c.val,.int .i64 chunk,.int .i64 lo,.int .i64 hi,.int .i64 most] w fun e w'=>∃ b,e = .returned (.pointer (some ⟨b,0,none⟩))/\w.heap.size<=b/\vh w' b (Lok.new c chunk lo hi most)/\Fr [] w w':=by unfold Cf.val;have F0:=(Fr.refl [] w).alloc (.cells #[.int .i64 c.t,.int .i64 c.c,.int .i64 c.wd,.int .i64 c.v] 23);obtain ⟨c0,c1,c2,c3⟩:=qag (Go.heap_alloc_new w (.cells #[.int .i64 c.t,.int .i64 c.c,.int .i64 c.wd,.int .i64 c.v] 23));go_enter Tryz.func93,Tryz.ntmps93;exact Bj
theorem Qr (x:Lok) (hi:-1<=x.i/\x.i<=100) (b:Nat) (w:World) (h:vh w b x):Calls Tryz.prog 119 #[.pointer (some ⟨b,0,none⟩)] w fun e w'=>e = .returned (.tuple #[])/\vh w' b x.on/\Fr [b] w w':=by
 generalize hy:x.on=y;have HY:=q9 hy;clear hy;obtain ⟨c0,c1,c2,c3,c4,c5,c6,c7,c8,c9,c10,c11,c12,c13,c14⟩:=qx h;have z:=h.frozen;go_enter Tryz.func119,Tryz.ntmps119;go_wp2_with fail;have h1:vh _ b { x with i:=x.i+1,line:=2 }:=Ob.set (Ob.set h (i:=9) (.int .i64 (x.i+1))) (i:=8) (.int .i64 2);have D1:Fr [b] w ((w.setCell ⟨b,9,none⟩ (.int .i64 (x.i+1))).setCell ⟨b,8,none⟩ (.int .i64 2)):=(Fr.setCell _ Lc).setCell' _ Lc;clear c0 c1 c2 c3 c4 c5 c6 c7 c8 c9 c10 c11 c12 c13 c14 z;generalize ((w.setCell ⟨b,9,none⟩ (.int .i64 (x.i+1))).setCell ⟨b,8,none⟩ (.int .i64 2))=w1 at *;obtain ⟨-,-,-,-,-,-,-,-,-,c9,c10,-,-,-,-⟩:=qx h1;have k9:=qb c9;have k10:=qb c10;clear c9 c10;refine wiq ?_;repeat (go_big_quiet_step (fail))
 refine wpQuiet_nil ?_;intro w2 F2;have h2:=Ob.up h1 F2;have D2:=D1.then F2;clear h1 D1 F2 k9 k10;obtain ⟨c0,c1,c2,c3,c4,c5,c6,c7,c8,c9,c10,c11,c12,c13,c14⟩:=qx h2;have z:=h2.frozen;by_cases hv:x.count<=x.i+1
 ·have hn:y = { x with i:=x.i+1,line:=0 }:=by rw [<- HY.out];unfold Lok.on;simp [hv]
  subst hn;have g:decide (x.i+1≥x.count)=true:=by simpa using hv
  exact Fp
 ·have hn:y = { x with i:=x.i+1,line:=2 }:=by rw [<- HY.out];unfold Lok.on;simp [hv]
  subst hn;have g:decide (x.i+1≥x.count)=false:=by simpa using hv
  exact I1
def ItAtK (l:List It) (key:Int) (u:Value) (w wr:World):Prop:=∃ k,k<=l.length/\u = .int .i64 (k:Nat)/\wr=w/\∀ j z,j<k->l[j]? = some z->z.k≠key
theorem Uw (x:Lok) (key:Int) (b:Nat) (w:World) (hl:x.l.length<=1000) (h:vh w b x) (hs:Sq fT w x.lv x.l) :
  Calls Tryz.prog 138 #[.pointer (some ⟨b,0,none⟩),.int .i64 key] w fun e w'=>e = .returned (.int .i64 (J8 x.l key))/\w=w':=by
 obtain ⟨a,cap,hv,hcap,hmax,-⟩:=id hs;obtain ⟨-,-,-,-,-,-,-,-,-,-,-,-,-,-,c14⟩:=qx h;rw [hv] at c14 hs;clear hv;go_enter Tryz.func138,Tryz.ntmps138;go_wp2_with fail;go_loopw [5] (fun u wr=>ItAtK x.l key u w wr) (fun u _=>x.l.length - (intOf u).toNat);case atStart=>exact ⟨0,Nat.zero_le _,rfl,rfl,by omega⟩
 case round =>
  obtain ⟨k,hk,rfl,rfl,h1⟩:=hrel;by_cases hlt:k<x.l.length
  ·obtain ⟨y,hy⟩:∃ y,x.l[k]? = some y:=⟨x.l[k],List.getElem?_eq_getElem hlt⟩;obtain ⟨g,off,rfl,d0,-,-⟩:=xk hs hy;by_cases hyk:y.k=key
   ·have HR:=q9 (q2x hy hyk h1);have g1:(y.k == key)=true:=by simpa using hyk
    clear hyk hy h1;exact Gy
   ·have g1:(y.k == key)=false:=by simpa using hyk
    have HY:=q9 (qc hy hyk);clear hyk hy;go_wp2_with fail;go_roundw
    case rel=>exact ⟨k+1,by omega,by go_num,rfl,fun j z hj hz=>by
     by_cases e:j=k
     ·subst e;rw [HY.out.1] at hz;cases hz;exact HY.out.2
     ·exact h1 j z Lb hz⟩
    case measure=>simp [intOf];omega
  ·obtain rfl:k=x.l.length:=by omega
   have HR:=q9 (q47 (fun j z hz=>h1 j z (List.getElem?_eq_some_iff.1 hz).1 hz));clear h1;exact Gy
def InsAt (l:List It) (key:Int) (u:Value) (w wr:World):Prop:=∃ k,k<=l.length/\u = .int .i64 (k:Nat)/\Fr [] w wr/\∀ i y,i<k->l[i]? = some y->y.k<key
theorem q6c {l:List It} {x:It} (h:Ve l x.k=none):q15 l x=q0a l x:=by unfold q15;rw [h]
theorem q54 {l:List It} {x:It} {i:Nat} (h:Ve l x.k=some i):q15 l x=l.set i x:=by unfold q15;rw [h]
theorem q8j (x:Lok) (it:It) (b:Nat) (w:World) (hN:Ve x.l it.k=none) (hl:x.l.length<=1000) (h:vh w b x) (hs:Sq fT w x.lv x.l) (hb:b∉x.lv.ownBlock.toList) :
  Calls Tryz.prog 121 #[.pointer (some ⟨b,0,none⟩),.agg #[.int .i64 it.k,.int .i64 it.v,.int .i64 it.d]] w fun e w'=>e = .returned (.tuple #[])/\(∃ lv',vh w' b { x with l:=q0a x.l it,lv:=lv' } /\ Sq fT w' lv' (q0a x.l it)/\∀ g,g∈lv'.ownBlock.toList->w.heap.size<=g)/\Fr [b] w w':=by
 obtain ⟨a,cap,hlv,hcap,hmax,-⟩:=id hs;have F0:=(Fr.refl [] w).alloc (.cells #[.int .i64 it.k,.int .i64 it.v,.int .i64 it.d] 148);have ob:=Ob.new w 148 #[.int .i64 it.k,.int .i64 it.v,.int .i64 it.d];have hi:=Uw x it.k b _ hl (h.up F0) (hs.up F0);rw [show J8 x.l it.k = -1 by unfold J8;rw [hN]] at hi;have HI:=q9 hi;clear hi;go_enter Tryz.func121,Tryz.ntmps121;go_wp2_with fail;refine HI.out.mono ?_;rintro e _ ⟨rfl,rfl⟩;clear HI;replace h:=h.up F0;replace hs:=hs.up F0;have hbl:=h.lt;generalize (w.alloc (.cells #[.int .i64 it.k,.int .i64 it.v,.int .i64 it.d] 148))=w1 at *;have hc14:=(qx h).2.2.2.2.2.2.2.2.2.2.2.2.2.2;rw [hlv] at hs hb hc14;go_wp2_with fail;go_loopw [5] (fun u wr=>InsAt x.l it.k u w1 wr) (fun u _=>x.l.length - (intOf u).toNat);case atStart=>exact ⟨0,Nat.zero_le _,rfl,Fr.refl _ _,by omega⟩
 case round =>
  obtain ⟨k,hk,rfl,FL,h1⟩:=hrel;have ob:=ob.up FL;have h:=h.up FL;have hs:=hs.up FL;have F0:=F0.trans FL;have hbl:=h.lt;have hc14:=FL.cell hc14 Lc;by_cases hlt:k<x.l.length
  ·obtain ⟨y,hy⟩:∃ y,x.l[k]? = some y:=⟨x.l[k],List.getElem?_eq_getElem hlt⟩;obtain ⟨g,off,rfl,d0,d1,d2⟩:=xk hs hy;have HYY:=q9 hy;clear hy;have k14:=qb hc14;have q0:=qb (ob.cell (i:=0) rfl);have dd0:=qb d0;clear d0 d1 d2;by_cases hyk:y.k<it.k
   ·have g1:decide (y.k<it.k)=true:=by simpa using hyk
    have gk:decide ((k:Int)<x.l.length)=true:=by simp;omega
    clear hc14;go_wp2_with fail;refine wiq ?_;repeat (go_big_quiet_step (fail))
    refine wpQuiet_nil ?_;intro w5 F5;clear k14 q0 dd0;go_wp2_with fail
    exact ⟨⟨k+1,by omega,by go_num,FL.trans F5,fun i z hi hz=>by
     by_cases e:i=k
     ·subst e;rw [HYY.out] at hz;cases hz;exact hyk
     ·exact h1 i z Lb hz⟩,by simp [intOf];omega⟩
   have g1:decide (y.k<it.k)=false:=by simpa using hyk
   have gk:decide ((k:Int)<x.l.length)=true:=by simp;omega
   have hn:=q9 (q67 (x:=it) Lb h1 (fun z hz=>by rw [HYY.out] at hz;cases hz;exact hyk));clear hc14;go_wp2_with fail;refine wiq ?_;repeat (go_big_quiet_step (fail))
   refine wpQuiet_nil ?_;intro w5 F5;clear k14 q0 dd0 g1 gk;replace h:=h.up F5;replace hs:=hs.up F5;replace ob:=ob.up F5;replace F0:=F0.trans F5;have hbl:=h.lt;have hc14:=(qx h).2.2.2.2.2.2.2.2.2.2.2.2.2.2;rw [hlv] at hc14;have c14:=hc14;clear hc14;go_wp2_with fail;have HS:=q9 hs;clear c14 hs;refine qp Le ?_;refine za [] w5 #[true,true,true,true,true,true,true,true,true,true,true,true,true,true,true,true,true,true,false,false,false] 18 3 rfl ?_;refine lpq [true,true,true,true,true,true,true,false,true,false,false,true,true,true,true,true,true,false,false,false,false] 4 ((Fr.refl _ w5).drew) ?_;apply qg;refine ⟨fun wf Ff=>?_,?_⟩
   ·exact Ic
   have HS1:=q9 (Sq.take zh HS.out k Lb);have HS2:=q9 (Sq.drop zh HS.out k Lb);have HT:=q9 (show (x.l.take k).length<=1000/\(x.l.drop k).length<=1000/\q0a x.l it=x.l.take k++[it]++x.l.drop k from ⟨by simp;omega,by simp;omega,hn.out⟩);generalize x.l.take k=T1 at HS1 HT;generalize x.l.drop k=T2 at HS2 HT;refine jo [7,9] Le Lc (fun w10 F10 i hi o ho=>?_);have G:=(Fr.refl [] w5).drew.trans F10;clear F10;simp only [List.mem_cons,List.not_mem_nil,or_false] at hi;rcases hi with rfl | rfl
   focus
    obtain rfl:=qi ho
    go_wp2_with (at_builtin;refine qq zh rfl _ _ 129 rfl Tryz.underlying129 itI rfl (B:=w5.heap.size) (.slice none 0 0) [] rfl ⟨rfl,.inl ⟨rfl,rfl⟩⟩ _ T1 rfl (HS1.out.up G) Lh Lg G.size ?_;intro a21 c21 w21 r21 f21)
    rw [List.nil_append] at r21
    replace G:=G.trans f21
    clear f21
    refine ql ⟨G,?_⟩
    refine loq 9 (fun w11 F11=>?_)
    have r11:=qo r21 F11
    replace G:=G.trans F11
    clear r21 F11
    go_wp2_with fail
    have F12:=(Fr.refl [] w11).alloc (.cells #[.int .i64 it.k,.int .i64 it.v,.int .i64 it.d] 148)
    have B12:=Go.heap_alloc_new w11 (.cells #[.int .i64 it.k,.int .i64 it.v,.int .i64 it.d] 148)
    have r12:=qo r11 F12
    replace G:=G.trans F12
    clear r11 F12 ho
    refine ql ⟨G,?_⟩
    refine loq 10 (fun w13 F13=>?_)
    have r22:=qo r12 F13
    have B22:=F13.heap B12 Lc
    replace G:=G.trans F13
    clear r12 B12 F13
   rotate_left
   focus
    obtain rfl:=qi ho
    go_wp2_with fail
    have F12:=(Fr.refl [] w10).alloc (.cells #[.int .i64 it.k,.int .i64 it.v,.int .i64 it.d] 148)
    have B12:=Go.heap_alloc_new w10 (.cells #[.int .i64 it.k,.int .i64 it.v,.int .i64 it.d] 148)
    replace G:=G.trans F12
    clear F12 ho
    refine ql ⟨G,?_⟩
    refine loq 7 (fun w11 F11=>?_)
    have B13:=F11.heap B12 Lc
    replace G:=G.trans F11
    clear B12 F11
    go_wp2_with (at_builtin;refine qq zh rfl _ _ 129 rfl Tryz.underlying129 itI rfl (B:=w5.heap.size) (.slice none 0 0) [] rfl ⟨rfl,.inl ⟨rfl,rfl⟩⟩ _ T1 rfl (HS1.out.up G) Lh Lg G.size ?_;intro a21 c21 w21 r21 f21)
    rw [List.nil_append] at r21
    have B21:=Fr.heap f21 B13 Lp
    replace G:=G.trans f21
    clear f21 B13
    refine ql ⟨G,?_⟩
    refine loq 10 (fun w13 F13=>?_)
    have r22:=qo r21 F13
    have B22:=F13.heap B21 Lc
    replace G:=G.trans F13
    clear r21 B21 F13
   rotate_left
   all_goals
    go_wp2_with (at_builtin;refine qq zh rfl _ _ 129 rfl Tryz.underlying129 itI rfl (B:=w5.heap.size) _ T1 rfl r22 _ [it] rfl (Sq.block B22 rfl rfl (Nat.le_refl _) Lm) Lh Lg G.size ?_;intro a23 c23 w23 r23 f23;generalize hT3:T1++[it]=T3 at r23 ⊢)
    replace G:=G.own f23 (z8 r22)
    clear f23 r22 B22
    refine ql ⟨G,?_⟩
    refine loq 17 (fun w14 F14=>?_)
    have r24:=qo r23 F14
    replace G:=G.trans F14
    clear r23 F14
    go_wp2_with (at_builtin;refine qq zh rfl _ _ 129 rfl Tryz.underlying129 itI rfl (B:=w5.heap.size) _ T3 rfl r24 _ T2 rfl (HS2.out.up G) Me Lg G.size ?_;intro a25 c25 w25 r25 f25;generalize hT4:T3++T2=T4 at r25 ⊢)
    replace G:=G.own f25 (z8 r24)
    clear f25 r24
    refine ql ⟨G,?_⟩
    refine qy (k:=18) rfl Le (fun w15 F15=>?_)
    have r26:=qo r25 F15
    replace G:=G.trans F15
    clear r25 F15
    have h26:=h.up G
    have z26:=h26.frozen
    obtain ⟨-,-,-,-,-,-,-,-,-,-,-,-,-,-,c14⟩:=qx h26
    go_wp2_with fail
    go_end0
    have hlt26:b<w5.heap.size:=h.lt
    have e26:q0a x.l it=T4:=by rw [HT.out.2.2,hT3,hT4]
    rw [<- e26] at r26 ⊢
    refine ⟨rfl,⟨_,Ob.set h26 (i:=14) _,(Sq.own r26).kept (Fr.setCell (S:=[b]) _ Lc) (fun g hg hi=>?_),fun g hg=>qh F0.size (z8 r26 g hg)⟩,(F0.mono).trans ((G.mono).trans (Fr.setCell _ Lc))⟩
    have:=z8 r26 g hg
    simp at hi
    omega
  ·obtain rfl:k=x.l.length:=by omega
   have gk:decide (((x.l.length:Nat):Int)<x.l.length)=false:=by simp
   have hn:=q9 (q67 (x:=it) (Nat.le_refl _) h1 (fun z hz=>by simp at hz));have k14:=qb hc14;clear hc14;go_wp2_with fail;refine wiq ?_;repeat (go_big_quiet_step (fail))
   refine wpQuiet_nil ?_;intro w5 F5;clear k14 gk;replace h:=h.up F5;replace hs:=hs.up F5;replace ob:=ob.up F5;replace F0:=F0.trans F5;have hbl:=h.lt;have hc14:=(qx h).2.2.2.2.2.2.2.2.2.2.2.2.2.2;rw [hlv] at hc14;have c14:=hc14;clear hc14;go_wp2_with fail;have HS:=q9 hs;clear c14 hs;refine qp Le ?_;refine za [] w5 #[true,true,true,true,true,true,true,true,true,true,true,true,true,true,true,true,true,true,false,false,false] 18 3 rfl ?_;refine lpq [true,true,true,true,true,true,true,false,true,false,false,true,true,true,true,true,true,false,false,false,false] 4 ((Fr.refl _ w5).drew) ?_;apply qg;refine ⟨fun wf Ff=>?_,?_⟩
   ·exact Ic
   have HS1:=HS;rw [List.take_length,List.drop_length] at hn;have HT:=q9 (show x.l.length<=1000/\([]:List It).length<=1000/\q0a x.l it=x.l++[it]++[] from ⟨hl,by simp,hn.out⟩);have hcm:cap - x.l.length<=maxLen:=by omega
   generalize (if cap=x.l.length then a else Option.map (fun y=>y.add (x.l.length * 3)) a)=a2;generalize cap - x.l.length=c2 at hcm ⊢;have HS2:=q9 (Sq.empty (f:=fT) w5 a2 hcm);refine jo [7,9] Le Lc (fun w10 F10 i hi o ho=>?_);have G:=(Fr.refl [] w5).drew.trans F10;clear F10;simp only [List.mem_cons,List.not_mem_nil,or_false] at hi;rcases hi with rfl | rfl
   focus
    obtain rfl:=qi ho
    go_wp2_with (at_builtin;refine qq zh rfl _ _ 129 rfl Tryz.underlying129 itI rfl (B:=w5.heap.size) (.slice none 0 0) [] rfl ⟨rfl,.inl ⟨rfl,rfl⟩⟩ _ x.l rfl (HS1.out.up G) Lh Lg G.size ?_;intro a21 c21 w21 r21 f21)
    rw [List.nil_append] at r21
    replace G:=G.trans f21
    clear f21
    refine ql ⟨G,?_⟩
    refine loq 9 (fun w11 F11=>?_)
    have r11:=qo r21 F11
    replace G:=G.trans F11
    clear r21 F11
    go_wp2_with fail
    have F12:=(Fr.refl [] w11).alloc (.cells #[.int .i64 it.k,.int .i64 it.v,.int .i64 it.d] 148)
    have B12:=Go.heap_alloc_new w11 (.cells #[.int .i64 it.k,.int .i64 it.v,.int .i64 it.d] 148)
    have r12:=qo r11 F12
    replace G:=G.trans F12
    clear r11 F12 ho
    refine ql ⟨G,?_⟩
    refine loq 10 (fun w13 F13=>?_)
    have r22:=qo r12 F13
    have B22:=F13.heap B12 Lc
    replace G:=G.trans F13
    clear r12 B12 F13
   rotate_left
   focus
    obtain rfl:=qi ho
    go_wp2_with fail
    have F12:=(Fr.refl [] w10).alloc (.cells #[.int .i64 it.k,.int .i64 it.v,.int .i64 it.d] 148)
    have B12:=Go.heap_alloc_new w10 (.cells #[.int .i64 it.k,.int .i64 it.v,.int .i64 it.d] 148)
    replace G:=G.trans F12
    clear F12 ho
    refine ql ⟨G,?_⟩
    refine loq 7 (fun w11 F11=>?_)
    have B13:=F11.heap B12 Lc
    replace G:=G.trans F11
    clear B12 F11
    go_wp2_with (at_builtin;refine qq zh rfl _ _ 129 rfl Tryz.underlying129 itI rfl (B:=w5.heap.size) (.slice none 0 0) [] rfl ⟨rfl,.inl ⟨rfl,rfl⟩⟩ _ x.l rfl (HS1.out.up G) Lh Lg G.size ?_;intro a21 c21 w21 r21 f21)
    rw [List.nil_append] at r21
    have B21:=Fr.heap f21 B13 Lp
    replace G:=G.trans f21
    clear f21 B13
    refine ql ⟨G,?_⟩
    refine loq 10 (fun w13 F13=>?_)
    have r22:=qo r21 F13
    have B22:=F13.heap B21 Lc
    replace G:=G.trans F13
    clear r21 B21 F13
   rotate_left
   all_goals
    go_wp2_with (at_builtin;refine qq zh rfl _ _ 129 rfl Tryz.underlying129 itI rfl (B:=w5.heap.size) _ x.l rfl r22 _ [it] rfl (Sq.block B22 rfl rfl (Nat.le_refl _) Lm) Lh Lg G.size ?_;intro a23 c23 w23 r23 f23;generalize hT3:x.l++[it]=T3 at r23 ⊢)
    replace G:=G.own f23 (z8 r22)
    clear f23 r22 B22
    refine ql ⟨G,?_⟩
    refine loq 17 (fun w14 F14=>?_)
    have r24:=qo r23 F14
    replace G:=G.trans F14
    clear r23 F14
    go_wp2_with (at_builtin;refine qq zh rfl _ _ 129 rfl Tryz.underlying129 itI rfl (B:=w5.heap.size) _ T3 rfl r24 _ [] rfl (HS2.out.up G) Me Lg G.size ?_;intro a25 c25 w25 r25 f25;generalize hT4:T3++([]:List It)=T4 at r25 ⊢)
    replace G:=G.own f25 (z8 r24)
    clear f25 r24
    refine ql ⟨G,?_⟩
    refine qy (k:=18) rfl Le (fun w15 F15=>?_)
    have r26:=qo r25 F15
    replace G:=G.trans F15
    clear r25 F15
    have h26:=h.up G
    have z26:=h26.frozen
    obtain ⟨-,-,-,-,-,-,-,-,-,-,-,-,-,-,c14⟩:=qx h26
    go_wp2_with fail
    go_end0
    have hlt26:b<w5.heap.size:=h.lt
    have e26:q0a x.l it=T4:=by rw [HT.out.2.2,hT3,hT4]
    rw [<- e26] at r26 ⊢
    refine ⟨rfl,⟨_,Ob.set h26 (i:=14) _,(Sq.own r26).kept (Fr.setCell (S:=[b]) _ Lc) (fun g hg hi=>?_),fun g hg=>qh F0.size (z8 r26 g hg)⟩,(F0.mono).trans ((G.mono).trans (Fr.setCell _ Lc))⟩
    have:=z8 r26 g hg
    simp at hi
    omega
end Go.Proofs.YtleclbldlladmaaGreat.Mx
namespace Go.Proofs.YtleclbldlladmaaGreat.Mx
open Go.RowKit Ar
section
variable {α:Type} {f:α->List Value} {sz:Nat}
theorem wu {P:Program} {w:World} {ops:Array Oper} {rest:List Oper} {o:Oper} {a:Act} {Q:Exit->Act->World->Prop} (hL:Lays f sz) (hgd:o.guard=none) (s x:Operand) (t:TypeId)
  (ho:o.op = .call { callee:=.builtin .append,args:=#[s,x],argTypes:=#[t,t] }) {E:TypeId} {z:Value} {bytes:Nat} (ht:P.underlying t=some (.slice E)) (hi:(P.info? E).map (fun i=>(i.zero,i.size,i.bytes))=some (some z,sz,bytes)) (hzs:z.cells.size=sz)
  {B:Nat} (v:Value) (os:List α) (hs:a.eval s=v) (hown:w.ownsRow B E sz v os.length (os.flatMap f)) (xv:Value) (ps:List α) (hx:a.eval x=xv) (hp:Sq f w xv ps)
  (hl:os.length+ps.length<=100000000) (hb:bytes<=1000) (hbase:B<=w.heap.size)
  (h:∀ a' c' w',w'.ownsRow B E sz (.slice a' (os++ps).length c') (os++ps).length ((os++ps).flatMap f)->Fr v.ownBlock.toList w w'->(∀ g,g∈(Value.slice a' (os++ps).length c').ownBlock.toList->g∈v.ownBlock.toList\/g=w.heap.size)->wpList P ops Q rest (a.put o.dst (.slice a' (os++ps).length c')) w'):wpList P ops Q (o :: rest) a w:=by
 obtain ⟨ad,cap,rfl,hcap,hm,hc⟩:=hp;obtain ⟨i,hi0,hz,hs0,hb0⟩:=info_parts hi;have hbytes:(os.length+ps.length) * bytes<=140737488355328:=qh (Nat.mul_le_mul hl hb) Lg
 have go:∀ (ad:Addr),(∀ j u,(ps.flatMap f)[j]? = some u->w.cell? (ad.add j)=some u)->a.eval x = .slice (some ad) ps.length cap->wpList P ops Q (o :: rest) a w:=by
  intro ad hcell hx;refine wpList_append_own_at w hgd s x t ho B E i _ sz bytes ht hi0 hz hs0 hb0 hzs hL.pos v os.length _ hs hown ad ps.length cap (ps.flatMap f) hx (hL.flat ps) hcell (hL.ones ps) Ni hbytes hbase fun v' w' h2 h3 _ h5=>?_
  rw [<- List.flatMap_append,<- List.length_append] at h2;obtain ⟨a',c',rfl,-,-⟩:=Qn h2
  exact h a' c' w' h2 (Te h3) (fun g hg=>by
   rcases h5 with h5 | h5
   ·rw [h5] at hg;exact .inl hg
   ·rw [h5] at hg;simp at hg;exact .inr hg)
 have hnil:ps.length=0->wpList P ops Q (o :: rest) a w:=by
  intro h0;obtain rfl:ps=[]:=List.eq_nil_of_length_eq_zero h0;cases ad with
  | some ad=>exact go ad (fun j u hu=>by simp at hu) hx
  | none =>
   have hown':=hown;obtain ⟨hxl,hv⟩:=hown
   have hle:∃ b0 c0,v = .slice b0 os.length c0/\os.length<=c0:=Cj
   obtain ⟨b0,c0,rfl,hle⟩:=hle;refine wpList_plain hgd fun K hK=>?_
   have hr:=run_append_nothing (P:=P) w t t o.type E i ht hi0 b0 os.length c0 hle (.slice none 0 cap) (by rw [hs0];exact Src.ofNil w ht cap);unfold Oper.wp execOp;have hx':a.eval x = .slice none 0 cap:=hx;simp only [ho,resolve,invoke,builtin,Sem.run_bind,Sem.run_pure,Result.andThen_ok,List.map_toArray,List.map_cons,List.map_nil,hs,hx',hr];have h':=h b0 c0 w;rw [List.append_nil] at h';exact hK _ _ (h' hown' (Fr.refl _ _) (fun g hg=>.inl hg))
 exact Dn
end
end Go.Proofs.YtleclbldlladmaaGreat.Mx
