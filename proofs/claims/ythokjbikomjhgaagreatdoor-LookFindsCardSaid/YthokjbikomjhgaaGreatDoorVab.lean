/- Parts. -/
import Derived.Test.YthokjbikomjhgaaGreatDoorVaa
import Derived.Deep.AppendLies
import Derived.Deep.Upon
import Derived.Laws.OwnMore
set_option linter.unusedVariables false
set_option linter.unusedSimpArgs false
set_option maxRecDepth 100000
set_option maxHeartbeats 12800000
namespace Go.Proofs.YthokjbikomjhgaaGreatDoor.Ar
open Go.RowKit
section
variable {w w':World} {B:Nat} {E:TypeId} {sz n:Nat} {v:Value} {xs:List Value} {S:List Nat}
theorem Q4 (h:w.ownsRow B E sz v n xs) (f:Fr S w w') (hS:∀ g,v.ownBlock=some g->g∉S):w'.ownsRow B E sz v n xs:=by obtain ⟨h1,h2⟩:=h;refine ⟨h1,h2.imp id ?_⟩;rintro ⟨g,cap,cur,rfl,hb,hh,r⟩;exact ⟨g,cap,cur,rfl,hb,f.heap hh (hS g rfl),r⟩
theorem qo (h:w.ownsRow B E sz v n xs) (f:Fr [] w w'):w'.ownsRow B E sz v n xs:=Q4 h f Ll
theorem Uq (h:w.grownBy w' v.ownBlock):Fr v.ownBlock.toList w w' :=
 ⟨h.os,h.tape,h.output,h.size,fun k hk hn=>h.block k hk (fun e=>hn (by rw [<- e];simp))⟩
theorem ji (h:w.ownsRow B E sz v n xs) {b:Nat} {cs:Array Value} {T:TypeId} {fr:Nat×Nat} (hb:w.heap[b]? = some (.cells cs T fr)) (hT:E≠T):b∉v.ownBlock.toList:=by
 rcases h.2 with ⟨rfl,_⟩ | ⟨g,cap,cur,rfl,_,hh,_⟩
 ·simp [Value.ownBlock]
 ·simp only [Value.ownBlock,Option.toList_some,List.mem_singleton];rintro rfl;rw [hh] at hb;simp only [Option.some.injEq,Obj.cells.injEq] at hb;exact hT hb.2.1
theorem qco (h:w.ownsRow B E sz v n xs) {b:Nat} {es:Array MapEntry} {k:Nat} (hb:w.heap[b]? = some (.map es k)):b∉v.ownBlock.toList:=by
 rcases h.2 with ⟨rfl,_⟩ | ⟨g,cap,cur,rfl,_,hh,_⟩
 ·simp [Value.ownBlock]
 ·simp only [Value.ownBlock,Option.toList_some,List.mem_singleton];rintro rfl;rw [hh] at hb;cases hb
theorem z8 (h:w.ownsRow B E sz v n xs):∀ g,g∈v.ownBlock.toList->B<=g:=by intro g hg;exact (h.lt g (by simpa using hg)).1
theorem Q3 {C:Nat} (h:w.ownsRow B E sz v n xs) (hC:C<=B):w.ownsRow C E sz v n xs:=by obtain ⟨h1,h2⟩:=h;refine ⟨h1,h2.imp id ?_⟩;rintro ⟨g,cap,cur,rfl,hb,r⟩;exact ⟨g,cap,cur,rfl,qh hC hb,r⟩
end
theorem qcp {P:Program} {w:World} {ops:Array Oper} {rest:List Oper} {o:Oper} {a:Act} {Q:Exit->Act->World->Prop} (hgd:o.guard=none) (s x:Operand) (t:TypeId)
  (ho:o.op = .call { callee:=.builtin .append,args:=#[s,x],argTypes:=#[t,t] })
  {B:Nat} {E:TypeId} {z:Value} {size bytes:Nat} (ht:P.underlying t=some (.slice E)) (hi:(P.info? E).map (fun i=>(i.zero,i.size,i.bytes))=some (some z,size,bytes))
  (hzs:z.cells.size=size) (hsz:0<size)
  (v:Value) (n:Nat) (xs:List Value) (hs:a.eval s=v) (hown:w.ownsRow B E size v n xs)
  {b m c:Nat} {cs:Array Value} {T:TypeId} (hx:a.eval x = .slice (some ⟨b,0,none⟩) m c) (hb:w.heap[b]? = some (.cells cs T (0,0))) (hl:cs.size=m * size) (h1:∀ u∈cs.toList,u.oneCell'=true)
  (h63:n+m<=maxLen) (hbytes:(n+m) * bytes<=140737488355328) (hbase:B<=w.heap.size)
  (h:∀ v' w',w'.ownsRow B E size v' (n+m) (xs++cs.toList)->Fr v.ownBlock.toList w w'->wpList P ops Q rest (a.put o.dst v') w'):wpList P ops Q (o :: rest) a w:=by
 obtain ⟨i,hi0,hz,hs0,hb0⟩:=info_parts hi
 exact wpList_append_own_at w hgd s x t ho B E i z size bytes ht hi0 hz hs0 hb0 hzs hsz v n xs hs hown ⟨b,0,none⟩ m c cs.toList hx (by simpa using hl) (World.news_of_block hb) h1 h63 hbytes hbase
  fun v' w' h2 h3 _ _=>h v' w' h2 (Uq h3)
theorem one_ints (k:IntKind) (zs:List Int):∀ u∈(zs.map (Value.int k)).toArray.toList,u.oneCell'=true:=by simpa using ints_oneCell k zs
theorem Qc {w:World} {B:Nat} {E:TypeId} {sz n:Nat} {v:Value} {xs:List Value} (h:w.ownsRow B E sz v n xs) :
  ∃ a cap,v = .slice a n cap/\n<=maxLen/\(n=0\/∃ g,a=some ⟨g,0,none⟩/\g<w.heap.size/\∀ j x,xs[j]? = some x->w.cell? ⟨g,j,none⟩=some x):=by
 obtain ⟨h1,h2⟩:=h;rcases h2 with ⟨rfl,rfl⟩ | ⟨g,cap,cur,rfl,-,hh,hc1,hc2,hs,ht⟩
 ·exact ⟨none,0,rfl,by simp [maxLen],.inl rfl⟩
 ·refine ⟨_,_,rfl,by omega,.inr ⟨g,rfl,(Array.getElem?_eq_some_iff.1 hh).1,fun j x hx=>?_⟩⟩;rw [cell_of_row _ _ _ _ _ _ hh];have hj:j<n * sz:=by rw [<- h1];exact (List.getElem?_eq_some_iff.1 hx).1
  rw [<- ht,List.getElem?_take_of_lt hj] at hx;simpa using hx
end Go.Proofs.YthokjbikomjhgaaGreatDoor.Ar
namespace Go.Proofs.YthokjbikomjhgaaGreatDoor.Mx
open Go.RowKit Ar
section
variable {α:Type} {f:α->List Value} {sz:Nat}
structure Lays (f:α->List Value) (sz:Nat):Prop where
 len:∀ x,(f x).length=sz
 one:∀ x,∀ u∈f x,u.oneCell'=true
 pos:0<sz
theorem Lays.flat (h:Lays f sz) (xs:List α):(xs.flatMap f).length=xs.length * sz:=by
 induction xs with
 | nil=>simp
 | cons x xs ih=>rw [List.flatMap_cons,List.length_append,ih,h.len,List.length_cons,Nat.succ_mul];omega
theorem Lays.ones (h:Lays f sz) (xs:List α):∀ u∈xs.flatMap f,u.oneCell'=true:=by intro u hu;obtain ⟨x,-,hx⟩:=List.mem_flatMap.1 hu;exact h.one x u hx
theorem Lays.parts (h:Lays f sz) (xs:List α) (k:Nat) (hk:k<=xs.length):(xs.take k).flatMap f++(xs.drop k).flatMap f=xs.flatMap f/\((xs.take k).flatMap f).length=k * sz :=
 ⟨by rw [<- List.flatMap_append,List.take_append_drop],by rw [h.flat,List.length_take,Nat.min_eq_left hk]⟩
theorem Lays.take (h:Lays f sz) (xs:List α) (k:Nat) (hk:k<=xs.length):(xs.take k).flatMap f=(xs.flatMap f).take (k * sz):=by obtain ⟨e,l⟩:=h.parts xs k hk;rw [<- e];exact (List.take_left' l).symm
theorem Lays.drop (h:Lays f sz) (xs:List α) (k:Nat) (hk:k<=xs.length):(xs.drop k).flatMap f=(xs.flatMap f).drop (k * sz):=by obtain ⟨e,l⟩:=h.parts xs k hk;rw [<- e];exact (List.drop_left' l).symm
theorem Lays.at (h:Lays f sz) {xs:List α} {i j:Nat} {x:α} (hi:xs[i]? = some x) (hj:j<sz):(xs.flatMap f)[i * sz+j]? = (f x)[j]?:=by
 induction xs generalizing i with
 | nil=>simp at hi
 | cons y xs ih =>
  rw [List.flatMap_cons];cases i with
  | zero =>
   simp at hi;subst hi;rw [Nat.zero_mul,Nat.zero_add,List.getElem?_append_left (by rw [h.len];exact hj)]
  | succ i =>
   rw [List.getElem?_append_right (by rw [h.len,Nat.succ_mul];omega),h.len,Nat.succ_mul,show i * sz+sz+j - sz=i * sz+j by omega];exact ih (by simpa using hi)
def Sq (f:α->List Value) (w:World) (v:Value) (xs:List α):Prop:=∃ a cap,v = .slice a xs.length cap/\xs.length<=cap/\cap<=maxLen /\
 (xs.length=0\/∃ g off,a=some ⟨g,off,none⟩/\g<w.heap.size/\∀ j u,(xs.flatMap f)[j]? = some u->w.cell? ⟨g,off+j,none⟩=some u)
theorem Sq.kept {S:List Nat} {w w':World} {v:Value} {xs:List α} (h:Sq f w v xs) (k:Fr S w w') (hS:∀ g,g∈v.ownBlock.toList->g∉S):Sq f w' v xs:=by obtain ⟨a,cap,rfl,h1,h2,h3⟩:=h;refine ⟨a,cap,rfl,h1,h2,h3.imp id ?_⟩;rintro ⟨g,off,rfl,hg,hc⟩;exact ⟨g,off,rfl,qj hg k.size,fun j u hu=>k.cell (hc j u hu) (hS g Lt)⟩
theorem Sq.up {w w':World} {v:Value} {xs:List α} (h:Sq f w v xs) (k:Fr [] w w'):Sq f w' v xs:=h.kept k Ll
theorem Sq.nil (w:World):Sq f w (.slice none 0 0) []:=⟨none,0,rfl,Nat.le_refl _,by simp [maxLen],.inl rfl⟩
theorem Sq.own {w:World} {B:Nat} {E:TypeId} {v:Value} {xs:List α} (h:w.ownsRow B E sz v xs.length (xs.flatMap f)):Sq f w v xs:=by
 obtain ⟨h1,h2⟩:=h;rcases h2 with ⟨rfl,e0⟩ | ⟨g,cap,cur,rfl,-,hh,hc1,hc2,hs,ht⟩
 ·have h0:xs.length=0:=by first | exact e0 | omega
  exact ⟨none,0,by rw [h0],by omega,by simp [maxLen],.inl h0⟩
 ·refine ⟨_,cap,rfl,hc1,hc2,.inr ⟨g,0,rfl,(Array.getElem?_eq_some_iff.1 hh).1,fun j u hu=>?_⟩⟩;rw [Nat.zero_add,cell_of_row _ _ _ _ _ _ hh];have hj:j<xs.length * sz:=by rw [<- h1];exact (List.getElem?_eq_some_iff.1 hu).1
  rw [<- ht,List.getElem?_take_of_lt hj] at hu;simpa using hu
theorem Sq.cell (hL:Lays f sz) {w:World} {a:Option Addr} {n cap:Nat} {xs:List α} (h:Sq f w (.slice a n cap) xs) {i:Nat} {x:α} (hi:xs[i]? = some x) :
  n=xs.length/\∃ g off,a=some ⟨g,off,none⟩/\∀ j u,(f x)[j]? = some u->w.cell? ⟨g,off+i * sz+j,none⟩=some u:=by
 obtain ⟨a',cap',e,h1,h2,h3⟩:=h;simp only [Value.slice.injEq] at e;obtain ⟨rfl,rfl,rfl⟩:=e;refine ⟨rfl,?_⟩;have hlt:=(List.getElem?_eq_some_iff.1 hi).1;rcases h3 with h0 | ⟨g,off,rfl,-,hc⟩
 ·omega
 ·refine ⟨g,off,rfl,fun j u hu=>?_⟩;have hj:j<sz:=by have:=(List.getElem?_eq_some_iff.1 hu).1;rw [hL.len] at this;exact this
  rw [Nat.add_assoc];exact hc _ _ ((hL.at hi hj).trans hu)
theorem Sq.take (hL:Lays f sz) {w:World} {a:Option Addr} {n cap:Nat} {xs:List α} (h:Sq f w (.slice a n cap) xs) (k:Nat) (hk:k<=xs.length):Sq f w (.slice a k cap) (xs.take k):=by
 obtain ⟨a',cap',e,h1,h2,h3⟩:=h;simp only [Value.slice.injEq] at e;obtain ⟨rfl,rfl,rfl⟩:=e;have hl:(xs.take k).length=k:=by simp [Nat.min_eq_left hk]
 refine ⟨a,cap,by rw [hl],by omega,h2,?_⟩;rcases h3 with h0 | ⟨g,off,rfl,hg,hc⟩
 ·exact .inl Lj
 ·refine .inr ⟨g,off,rfl,hg,fun j u hu=>hc j u ?_⟩;rw [hL.take xs k hk] at hu;have hj:=(List.getElem?_eq_some_iff.1 hu).1;rw [List.length_take] at hj;rw [List.getElem?_take_of_lt Lj] at hu;exact hu
theorem Sq.drop (hL:Lays f sz) {w:World} {g off n cap:Nat} {xs:List α} (h:Sq f w (.slice (some ⟨g,off,none⟩) n cap) xs) (k:Nat) (hk:k<=xs.length):Sq f w (.slice (some ⟨g,off+k * sz,none⟩) (xs.length - k) (cap - k)) (xs.drop k):=by
 obtain ⟨a',cap',e,h1,h2,h3⟩:=h;simp only [Value.slice.injEq] at e;obtain ⟨rfl,rfl,rfl⟩:=e;have hl:(xs.drop k).length=xs.length - k:=by simp
 refine ⟨_,cap - k,by rw [hl],by omega,by omega,?_⟩;rcases h3 with h0 | ⟨g',off',e,hg,hc⟩
 ·exact .inl Lj
 ·simp only [Option.some.injEq,Addr.mk.injEq] at e;obtain ⟨rfl,rfl,-⟩:=e;refine .inr ⟨g,off+k * sz,rfl,hg,fun j u hu=>?_⟩;rw [hL.drop xs k hk,List.getElem?_drop] at hu;rw [Nat.add_assoc];exact hc _ _ hu
theorem Sq.block {w:World} {b n c:Nat} {cs:Array Value} {T:TypeId} {xs:List α} (h:w.heap[b]? = some (.cells cs T (0,0))) (hx:xs.flatMap f=cs.toList) (hn:xs.length=n) (h1:n<=c) (h2:c<=maxLen):Sq f w (.slice (some ⟨b,0,none⟩) n c) xs:=by subst hn;refine ⟨_,c,rfl,h1,h2,.inr ⟨b,0,rfl,(Array.getElem?_eq_some_iff.1 h).1,fun j u hu=>?_⟩⟩;rw [cell_of_row _ _ _ _ _ _ h,Nat.zero_add];rw [hx] at hu;simpa using hu
theorem Sq.empty (w:World) (a:Option Addr) {c:Nat} (h:c<=maxLen):Sq f w (.slice a 0 c) []:=⟨a,c,rfl,Nat.zero_le _,h,.inl rfl⟩
theorem addr_add (b o j:Nat):(⟨b,o,none⟩:Addr).add j=⟨b,o+j,none⟩:=by
 unfold Addr.add;split
 ·rename_i h;subst h;rfl
 ·rfl
theorem qq {P:Program} {w:World} {ops:Array Oper} {rest:List Oper} {o:Oper} {a:Act} {Q:Exit->Act->World->Prop} (hL:Lays f sz) (hgd:o.guard=none) (s x:Operand) (t:TypeId)
  (ho:o.op = .call { callee:=.builtin .append,args:=#[s,x],argTypes:=#[t,t] }) {E:TypeId} {z:Value} {bytes:Nat} (ht:P.underlying t=some (.slice E)) (hi:(P.info? E).map (fun i=>(i.zero,i.size,i.bytes))=some (some z,sz,bytes)) (hzs:z.cells.size=sz)
  {B:Nat} (v:Value) (os:List α) (hs:a.eval s=v) (hown:w.ownsRow B E sz v os.length (os.flatMap f)) (xv:Value) (ps:List α) (hx:a.eval x=xv) (hp:Sq f w xv ps)
  (hl:os.length+ps.length<=1000000) (hb:bytes<=1000) (hbase:B<=w.heap.size)
  (h:∀ a' c' w',w'.ownsRow B E sz (.slice a' (os++ps).length c') (os++ps).length ((os++ps).flatMap f)->Fr v.ownBlock.toList w w'->wpList P ops Q rest (a.put o.dst (.slice a' (os++ps).length c')) w'):wpList P ops Q (o :: rest) a w:=by
 obtain ⟨ad,cap,rfl,hcap,hm,hc⟩:=hp;obtain ⟨i,hi0,hz,hs0,hb0⟩:=info_parts hi;have hbytes:(os.length+ps.length) * bytes<=140737488355328:=qh (Nat.mul_le_mul hl hb) Lr
 have go:∀ (ad:Addr),(∀ j u,(ps.flatMap f)[j]? = some u->w.cell? (ad.add j)=some u)->a.eval x = .slice (some ad) ps.length cap->wpList P ops Q (o :: rest) a w:=by
  intro ad hcell hx;refine wpList_append_own_at w hgd s x t ho B E i _ sz bytes ht hi0 hz hs0 hb0 hzs hL.pos v os.length _ hs hown ad ps.length cap (ps.flatMap f) hx (hL.flat ps) hcell (hL.ones ps) Ns hbytes hbase fun v' w' h2 h3 _ _=>?_
  rw [<- List.flatMap_append,<- List.length_append] at h2;obtain ⟨a',c',rfl,-,-⟩:=Qc h2;exact h a' c' w' h2 (Uq h3)
 have hnil:ps.length=0->wpList P ops Q (o :: rest) a w:=by
  intro h0;obtain rfl:ps=[]:=List.eq_nil_of_length_eq_zero h0;cases ad with
  | some ad=>exact go ad (fun j u hu=>by simp at hu) hx
  | none =>
   have hown':=hown;obtain ⟨hxl,hv⟩:=hown
   have hle:∃ b0 c0,v = .slice b0 os.length c0/\os.length<=c0:=Cr
   obtain ⟨b0,c0,rfl,hle⟩:=hle;refine wpList_plain hgd fun K hK=>?_
   have hr:=run_append_nothing (P:=P) w t t o.type E i ht hi0 b0 os.length c0 hle (.slice none 0 cap) (by rw [hs0];exact Src.ofNil w ht cap);unfold Oper.wp execOp;have hx':a.eval x = .slice none 0 cap:=hx;simp only [ho,resolve,invoke,builtin,Sem.run_bind,Sem.run_pure,Result.andThen_ok,List.map_toArray,List.map_cons,List.map_nil,hs,hx',hr];have h':=h b0 c0 w;rw [List.append_nil] at h';exact hK _ _ (h' hown' (Fr.refl _ _))
 exact Dv
end
section
variable {α:Type} {f:α->List Value} {sz:Nat}
def Xq (ms:List α) (z:α) (i:Nat):List α:=ms.take i++List.replicate (ms.length - i) z
theorem q7w (ms:List α) (z:α):Xq ms z 0=List.replicate ms.length z:=by simp [Xq]
theorem q8t (ms:List α) (z:α) {i:Nat} (h:i<=ms.length):(Xq ms z i).length=ms.length:=by simp [Xq];omega
theorem Sr (ms:List α) (z:α) {i:Nat} (h:i<ms.length):Xq ms z i=ms.take i++z :: List.replicate (ms.length - (i+1)) z:=by unfold Xq;rw [show ms.length - i=(ms.length - (i+1))+1 by omega,List.replicate_succ]
theorem q95 {ms:List α} (z:α) {i:Nat} {v:α} (h:ms[i]? = some v):(Xq ms z i).set i v=Xq ms z (i+1):=by have hl:=(List.getElem?_eq_some_iff.1 h).1;rw [Sr ms z hl];unfold Xq;rw [List.take_add_one,h,Option.toList_some,List.append_assoc,List.set_append_right _ _ (by rw [List.length_take];omega),show i - (ms.take i).length=0 by rw [List.length_take];omega];rfl
theorem qbn {ms:List α} (z:α) {i:Nat} (h:i<ms.length):(Xq ms z i)[i]? = some z:=by rw [Sr ms z h,List.getElem?_append_right (by rw [List.length_take];omega),show i - (ms.take i).length=0 by rw [List.length_take];omega];rfl
theorem q63 {ms:List α} (z:α) {i j:Nat} (h:j<i) (hj:j<ms.length):(Xq ms z i)[j]? = ms[j]?:=by unfold Xq;rw [List.getElem?_append_left Lu,List.getElem?_take_of_lt h]
theorem q66 (hL:Lays f sz) (z:α) (zs:Array Value) (hz:zs.toList=f z) (n:Nat):(madeCells zs (n * sz)).toList=(List.replicate n z).flatMap f:=by
 have hzs:zs.size=sz:=by rw [<- Array.length_toList,hz,hL.len]
 apply List.ext_getElem?;intro k;by_cases hk:k<n * sz
 ·have h1:k / sz<n:=(Nat.div_lt_iff_lt_mul hL.pos).2 hk;have h2:k % sz<sz:=Nat.mod_lt _ hL.pos;have h3:k=(k / sz) * sz+k % sz:=by rw [Nat.mul_comm];exact (Nat.div_add_mod k sz).symm
  have e:((List.replicate n z).flatMap f)[k]? = (f z)[k % sz]?:=by have:=hL.at (xs:=List.replicate n z) (i:=k / sz) (j:=k % sz) (x:=z) (by rw [List.getElem?_replicate];simp [h1]) h2;rw [<- h3] at this;exact this
  rw [e,<- hz];simp only [madeCells,Array.toList_map,Array.toList_range,List.getElem?_map,List.getElem?_range hk,Option.map_some,hzs];rw [Array.getElem?_toList,getElem!_pos zs (k % sz) (by rw [hzs];exact h2)];rw [Array.getElem?_eq_getElem]
 ·rw [List.getElem?_eq_none (by simp [madeCells];omega),List.getElem?_eq_none (by rw [hL.flat];simp;omega)]
theorem Sz {P:Program} {w:World} {ops:Array Oper} {rest:List Oper} {o:Oper} {a:Act} {Q:Exit->Act->World->Prop} (hL:Lays f sz) (hg:o.guard=none) (l c:Operand) (t:TypeId) (hop:o.op=Op.makeSlice t l c)
  {E:TypeId} {z:Value} {bytes:Nat} (ht:P.underlying t=some (.slice E)) (hi:(P.info? E).map (fun i=>(i.zero,i.size,i.bytes))=some (some z,sz,bytes)) (z0:α) (hz:z.cells.toList=f z0)
  (n:Nat) (hl:a.eval l = .int .i64 (n:Int)) (hc:a.eval c = .int .i64 (n:Int)) (hn:n<=1000000) (hb:bytes<=1000)
  (hK:∀ w',Ob w' w.heap.size E ((List.replicate n z0).flatMap f).toArray->Fr [] w w'->wpList P ops Q rest (a.put o.dst (.slice (some ⟨w.heap.size,0,none⟩) n n)) w'):wpList P ops Q (o :: rest) a w:=by
 obtain ⟨i,hi0,hz0,hs0,hb0⟩:=info_parts hi;refine wpList_make_full w hg l c t hop 0 E i z sz ht hi0 hz0 hs0 .i64 .i64 _ _ n hl hc rfl rfl (by rw [hb0];have:=Nat.mul_le_mul hb hn;omega) Ns (Nat.zero_le _) fun w' hown hgr=>?_
 refine hK w' ?_ (Fr.grown hgr);obtain ⟨-,hown⟩:=hown;rcases hown with ⟨e1,-⟩ | ⟨g,cap,cur,e1,-,hh,hc1,hc2,hs,ht2⟩
 ·simp at e1
 simp only [Value.slice.injEq,Option.some.injEq,Addr.mk.injEq] at e1;obtain ⟨⟨rfl,-⟩,-,rfl⟩:=e1;rw [q66 hL z0 _ hz,List.take_of_length_le Lu] at ht2;have:cur=((List.replicate n z0).flatMap f).toArray:=by rw [<- ht2]
 rw [this] at hh;exact hh
theorem Tt (hL:Lays f sz):∀ {xs:List α} {i j:Nat} {x x':α} {u:Value},xs[i]? = some x->j<sz->f x'=(f x).set j u->(xs.flatMap f).set (i * sz+j) u=(xs.set i x').flatMap f
 | [],i,j,x,x',u,h,_,_=>by simp at h
 | y :: xs,0,j,x,x',u,h,hj,hf=>by
  obtain rfl:y=x:=by simpa using h
  rw [List.flatMap_cons,List.set_cons_zero,List.flatMap_cons,Nat.zero_mul,Nat.zero_add,List.set_append_left _ _ (by rw [hL.len];exact hj),hf]
 | y :: xs,i+1,j,x,x',u,h,hj,hf=>by
  rw [List.flatMap_cons,List.set_cons_succ,List.flatMap_cons,List.set_append_right _ _ (by rw [hL.len,Nat.succ_mul];omega),hL.len,Nat.succ_mul,show i * sz+sz+j - sz=i * sz+j by omega,Tt hL Pg hj hf]
theorem Ob.seg (hL:Lays f sz) {w:World} {b:Nat} {T:TypeId} {xs:List α} (o:Ob w b T (xs.flatMap f).toArray) {i j:Nat} {x x':α} {u:Value} (hi:xs[i]? = some x) (hj:j<sz) (hf:f x'=(f x).set j u) :
  Ob (w.setCell ⟨b,i * sz+j,none⟩ u) b T ((xs.set i x').flatMap f).toArray:=by
 have:=o.set (i:=i * sz+j) u
 have e:(xs.flatMap f).toArray.setIfInBounds (i * sz+j) u=((xs.set i x').flatMap f).toArray:=by rw [<- Tt hL hi hj hf];simp
 rw [e] at this;exact this
theorem Ob.segCell (hL:Lays f sz) {w:World} {b:Nat} {T:TypeId} {xs:List α} (o:Ob w b T (xs.flatMap f).toArray) {i j:Nat} {x:α} {u:Value} (hi:xs[i]? = some x) (hj:(f x)[j]? = some u):w.cell? ⟨b,i * sz+j,none⟩=some u:=by
 refine o.cell ?_;have hj':j<sz:=by have:=(List.getElem?_eq_some_iff.1 hj).1;rw [hL.len] at this;exact this
 rw [List.getElem?_toArray,hL.at hi hj'];exact hj
theorem Ob.sq (hL:Lays f sz) {w:World} {b:Nat} {T:TypeId} {xs:List α} (o:Ob w b T (xs.flatMap f).toArray) (hm:xs.length<=1000000):Sq f w (.slice (some ⟨b,0,none⟩) xs.length xs.length) xs :=
 Sq.block o Ll rfl (Nat.le_refl _) Ns
end
structure It where
 k:Int
 v:Int
 d:Int
deriving DecidableEq
def fT (x:It):List Value:=[.int .i64 x.k,.int .i64 x.v,.int .i64 x.d]
theorem zh:Lays fT 3:=⟨fun _=>rfl,fun x u hu=>by simp [fT] at hu;rcases hu with rfl | rfl | rfl <;> rfl,by decide⟩
theorem itI:(Tryz.prog.info? 74).map (fun i=>(i.zero,i.size,i.bytes))=some (some (.agg #[.int .i64 0,.int .i64 0,.int .i64 0]),3,24):=by kernel_rfl
def gtT (y x:It):Bool:=decide (y.k>x.k) || ((y.k == x.k) && decide (y.v>x.v))
def Yf (out:List It) (x:It):Nat->Nat
 | 0=>0
 | k+1=>if (out[k]?.any fun y=>gtT y x)=true then Yf out x k else k+1
def Ty (out:List It) (x:It):List It:=out.take (Yf out x out.length)++[x]++out.drop (Yf out x out.length)
def Zh (l:List It):List It:=l.foldl Ty []
theorem Rx {out:List It} {x y:It} {j:Nat} (hy:out[j]? = some y):Yf out x (j+1)=if gtT y x=true then Yf out x j else j+1:=by simp only [Yf,hy,Option.any_some]
theorem q62 (out:List It) (x:It) (k:Nat):Yf out x k<=k:=by
 induction k with
 | zero=>exact Nat.le_refl _
 | succ k ih=>unfold Yf;split <;> omega
theorem q1p (out:List It) (x:It):(Ty out x).length=out.length+1:=by unfold Ty;have:=q62 out x out.length;simp;omega
theorem Xh (l:List It):(Zh l).length=l.length:=by
 unfold Zh;suffices h:∀ (l out:List It),(l.foldl Ty out).length=out.length+l.length by have:=h l [];simpa using this
 intro l;induction l with
 | nil=>intro out;rfl
 | cons x l ih=>intro out;rw [List.foldl_cons,ih,q1p,List.length_cons];omega
theorem xj {w:World} {a:Option Addr} {n cap i:Nat} {xs:List It} {x:It} (h:Sq fT w (.slice a n cap) xs) (hi:xs[i]? = some x) :
  ∃ g off,a=some ⟨g,off,none⟩/\w.cell? ⟨g,off+i * 3,none⟩=some (.int .i64 x.k)/\w.cell? ⟨g,off+i * 3+1,none⟩=some (.int .i64 x.v)/\w.cell? ⟨g,off+i * 3+2,none⟩=some (.int .i64 x.d):=by
 obtain ⟨-,g,off,rfl,hc⟩:=Sq.cell zh h hi;exact Hv
def SrtAt (w:World) (l:List It) (u x:Value) (wr:World):Prop:=∃ i,i<=l.length/\x = .int .i64 (i:Nat)/\wr.ownsRow w.heap.size 74 3 u (Zh (l.take i)).length ((Zh (l.take i)).flatMap fT)/\Fr [] w wr
def PosAt (wr:World) (out:List It) (x:It) (u:Value) (w':World):Prop:=∃ k,k<=out.length/\u = .int .i64 (k:Nat)/\Fr [] wr w'/\Yf out x out.length=Yf out x k
theorem q8u (l:List It) (v:Value) (w:World) (hl:l.length<=1000) (h:Sq fT w v l) :
  Calls Tryz.prog 101 #[v] w fun e w'=>(∃ u,e = .returned u/\w'.ownsRow w.heap.size 74 3 u (Zh l).length ((Zh l).flatMap fT))/\Fr [] w w':=by
 obtain ⟨a,cap,rfl,hcap,hmax,-⟩:=id h;go_enter Tryz.func101,Tryz.ntmps101;go_wp2_with fail;go_loopw [3,4] (SrtAt w l) (fun _ x _=>l.length - (intOf x).toNat);case atStart=>exact ⟨0,by omega,rfl,⟨rfl,.inl ⟨rfl,rfl⟩⟩,Fr.refl _ _⟩
 case round =>
  obtain ⟨i,hi,rfl,hr,F⟩:=hrel;by_cases hlt:i<l.length
  ·obtain ⟨x,hx⟩:∃ x,l[i]? = some x:=⟨l[i],List.getElem?_eq_getElem hlt⟩;have hso:=Xh (l.take i)
   have hnx:Zh (l.take (i+1))=Ty (Zh (l.take i)) x:=by unfold Zh;exact Hb
   generalize Zh (l.take i)=out at *;have hol:out.length<=1000:=by rw [hso,List.length_take];omega
   obtain ⟨ao,co,rfl,hco,hcm,-⟩:=id (Sq.own (f:=fT) hr);have HO:=Sq.own (f:=fT) hr;have HN:=q9 (qc hnx hol);clear hnx hso;go_wp2_with fail;go_loopw [5] (PosAt wr out x) (fun u _=>(intOf u).toNat);case atStart=>exact ⟨out.length,Nat.le_refl _,rfl,Fr.refl _ _,rfl⟩
   case round =>
    obtain ⟨k,hk,rfl,F2,hp⟩:=hrel;rcases k with _ | j
    ·obtain ⟨gl,ol,rfl,-,-,-⟩:=xj (h.up (F.trans F2)) hx;by_cases h00:out.length=0
     ·obtain rfl:out=[]:=List.eq_nil_of_length_eq_zero h00;go_wp2_with fail;refine wiq ?_;repeat (go_big_quiet_step (fail))
      refine wpQuiet_nil ?_;intro w5 F5;go_wp2_with fail;have FW:=(F.trans F2).trans F5;have HO5:=HO.up (F2.trans F5);have HL5:=q9 (h.up FW);refine z7 Lm [] (fun w2 F2'=>?_);refine epq [true,true,true,false,true,true,true,true,false,false,true,true,true,false,false] 5 F2' ?_;apply qg;refine ⟨fun wf Ff=>?_,?_⟩
      ·exact Ii
      have HS1:=q9 (Sq.empty (f:=fT) w5 ao hcm);have HS2:=q9 (Sq.empty (f:=fT) w5 ao hcm);have HT:=q9 (show ([]:List It).length<=1000/\([]:List It).length<=1000/\Ty [] x=[]++[x]++[] from ⟨by simp,by simp,rfl⟩);refine jc [3,8] Lm Ll (fun w10 F10 m hm o ho=>?_);have G:=F2'.trans F10;clear F10 F2';simp only [List.mem_cons,List.not_mem_nil,or_false] at hm;rcases hm with rfl | rfl
      focus
       obtain rfl:=qi ho
       have S1':=HS1.out.up G
       go_wp2_with (at_builtin;refine qq zh rfl _ _ 65 rfl Tryz.underlying65 itI rfl (B:=w5.heap.size) (.slice none 0 0) [] rfl ⟨rfl,.inl ⟨rfl,rfl⟩⟩ _ ([]:List It) rfl S1' Mf Lr G.size ?_;intro a21 c21 w21 r21 f21)
       rw [List.nil_append] at r21
       replace G:=G.trans f21
       clear f21 S1'
       refine ql ⟨G,?_⟩
       refine eoq 8 (fun w11 F11=>?_)
       have r11:=qo r21 F11
       replace G:=G.trans F11
       clear r21 F11
       go_wp2_with fail
       have F12:=(Fr.refl [] w11).alloc (.cells #[.int .i64 x.k,.int .i64 x.v,.int .i64 x.d] 74)
       have B21:=Go.heap_alloc_new w11 (.cells #[.int .i64 x.k,.int .i64 x.v,.int .i64 x.d] 74)
       have r21:=qo r11 F12
       replace G:=G.trans F12
       clear r11 F12 ho
      rotate_left
      focus
       obtain rfl:=qi ho
       go_wp2_with fail
       have F12:=(Fr.refl [] w10).alloc (.cells #[.int .i64 x.k,.int .i64 x.v,.int .i64 x.d] 74)
       have B12:=Go.heap_alloc_new w10 (.cells #[.int .i64 x.k,.int .i64 x.v,.int .i64 x.d] 74)
       replace G:=G.trans F12
       clear F12 ho
       refine ql ⟨G,?_⟩
       refine eoq 3 (fun w11 F11=>?_)
       have B13:=F11.heap B12 Ll
       replace G:=G.trans F11
       clear B12 F11
       have S1':=HS1.out.up G
       go_wp2_with (at_builtin;refine qq zh rfl _ _ 65 rfl Tryz.underlying65 itI rfl (B:=w5.heap.size) (.slice none 0 0) [] rfl ⟨rfl,.inl ⟨rfl,rfl⟩⟩ _ ([]:List It) rfl S1' Mf Lr G.size ?_;intro a21 c21 w21 r21 f21)
       rw [List.nil_append] at r21
       have B21:=Fr.heap f21 B13 Lt
       replace G:=G.trans f21
       clear f21 B13 S1'
      rotate_left
      all_goals
       refine ql ⟨G,?_⟩
       refine eoq 9 (fun w13 F13=>?_)
       have r22:=qo r21 F13
       have B22:=F13.heap B21 Ll
       replace G:=G.trans F13
       clear r21 B21 F13
       go_wp2_with (at_builtin;refine qq zh rfl _ _ 65 rfl Tryz.underlying65 itI rfl (B:=w5.heap.size) _ ([]:List It) rfl r22 _ [x] rfl (Sq.block B22 rfl rfl (Nat.le_refl _) Ly) Mf Lr G.size ?_;intro a23 c23 w23 r23 f23;generalize hT3:([]:List It)++[x]=T3 at r23 ⊢)
       replace G:=G.own f23 (z8 r22)
       clear f23 r22 B22
       refine ql ⟨G,?_⟩
       refine eoq 13 (fun w14 F14=>?_)
       have r24:=qo r23 F14
       replace G:=G.trans F14
       clear r23 F14
       have S2':=HS2.out.up G
       go_wp2_with (at_builtin;refine qq zh rfl _ _ 65 rfl Tryz.underlying65 itI rfl (B:=w5.heap.size) _ T3 rfl r24 _ ([]:List It) rfl S2' Nh Lr G.size ?_;intro a25 c25 w25 r25 f25;generalize hT4:T3++([]:List It)=T4 at r25 ⊢)
       replace G:=G.own f25 (z8 r24)
       clear f25 r24 S2'
       refine ql ⟨G,?_⟩
       refine eoq 14 (fun w15 F15=>?_)
       have r26:=qo r25 F15
       replace G:=G.trans F15
       clear r25 F15
       go_wp2
       refine ql ⟨G,?_⟩
       refine zq Lm (fun w16 F16=>?_)
       have r27:=qo r26 F16
       replace G:=G.trans F16
       clear r26 F16
       have e26:Zh (l.take (i+1))=T4:=by rw [HN.out.1,HT.out.2.2,hT3,hT4]
       rw [<- e26] at r27 ⊢
       have r28:=Q3 r27 FW.size
       go_wp2
       exact ⟨⟨i+1,by omega,by go_num,r28,FW.trans G⟩,by simp [intOf];omega⟩
     obtain ⟨y,hy⟩:∃ y,out[0]? = some y:=⟨out[0],List.getElem?_eq_getElem Lj⟩;obtain ⟨go,oo,rfl,-,-,-⟩:=xj HO hy;go_wp2_with fail;refine wiq ?_;repeat (go_big_quiet_step (fail))
     refine wpQuiet_nil ?_;intro w5 F5;go_wp2_with fail;have FW:=(F.trans F2).trans F5;have HO5:=HO.up (F2.trans F5);have HL5:=q9 (h.up FW);refine z7 Lm [] (fun w2 F2'=>?_);refine epq [true,true,true,false,true,true,true,true,false,false,true,true,true,false,false] 5 F2' ?_;apply qg;refine ⟨fun wf Ff=>?_,?_⟩
     ·exact Ii
     have HS1:=q9 (Sq.empty (f:=fT) w5 (some ⟨go,oo,none⟩) hcm);have HS2:=q9 (HO5);have HT:=q9 (show ([]:List It).length<=1000/\out.length<=1000/\Ty out x=[]++[x]++out from ⟨by simp,HN.out.2,by unfold Ty;rw [hp];rfl⟩);refine jc [3,8] Lm Ll (fun w10 F10 m hm o ho=>?_);have G:=F2'.trans F10;clear F10 F2';simp only [List.mem_cons,List.not_mem_nil,or_false] at hm;rcases hm with rfl | rfl
     focus
      obtain rfl:=qi ho
      have S1':=HS1.out.up G
      go_wp2_with (at_builtin;refine qq zh rfl _ _ 65 rfl Tryz.underlying65 itI rfl (B:=w5.heap.size) (.slice none 0 0) [] rfl ⟨rfl,.inl ⟨rfl,rfl⟩⟩ _ ([]:List It) rfl S1' Mf Lr G.size ?_;intro a21 c21 w21 r21 f21)
      rw [List.nil_append] at r21
      replace G:=G.trans f21
      clear f21 S1'
      refine ql ⟨G,?_⟩
      refine eoq 8 (fun w11 F11=>?_)
      have r11:=qo r21 F11
      replace G:=G.trans F11
      clear r21 F11
      go_wp2_with fail
      have F12:=(Fr.refl [] w11).alloc (.cells #[.int .i64 x.k,.int .i64 x.v,.int .i64 x.d] 74)
      have B21:=Go.heap_alloc_new w11 (.cells #[.int .i64 x.k,.int .i64 x.v,.int .i64 x.d] 74)
      have r21:=qo r11 F12
      replace G:=G.trans F12
      clear r11 F12 ho
     rotate_left
     focus
      obtain rfl:=qi ho
      go_wp2_with fail
      have F12:=(Fr.refl [] w10).alloc (.cells #[.int .i64 x.k,.int .i64 x.v,.int .i64 x.d] 74)
      have B12:=Go.heap_alloc_new w10 (.cells #[.int .i64 x.k,.int .i64 x.v,.int .i64 x.d] 74)
      replace G:=G.trans F12
      clear F12 ho
      refine ql ⟨G,?_⟩
      refine eoq 3 (fun w11 F11=>?_)
      have B13:=F11.heap B12 Ll
      replace G:=G.trans F11
      clear B12 F11
      have S1':=HS1.out.up G
      go_wp2_with (at_builtin;refine qq zh rfl _ _ 65 rfl Tryz.underlying65 itI rfl (B:=w5.heap.size) (.slice none 0 0) [] rfl ⟨rfl,.inl ⟨rfl,rfl⟩⟩ _ ([]:List It) rfl S1' Mf Lr G.size ?_;intro a21 c21 w21 r21 f21)
      rw [List.nil_append] at r21
      have B21:=Fr.heap f21 B13 Lt
      replace G:=G.trans f21
      clear f21 B13 S1'
     rotate_left
     all_goals
      refine ql ⟨G,?_⟩
      refine eoq 9 (fun w13 F13=>?_)
      have r22:=qo r21 F13
      have B22:=F13.heap B21 Ll
      replace G:=G.trans F13
      clear r21 B21 F13
      go_wp2_with (at_builtin;refine qq zh rfl _ _ 65 rfl Tryz.underlying65 itI rfl (B:=w5.heap.size) _ ([]:List It) rfl r22 _ [x] rfl (Sq.block B22 rfl rfl (Nat.le_refl _) Ly) Mf Lr G.size ?_;intro a23 c23 w23 r23 f23;generalize hT3:([]:List It)++[x]=T3 at r23 ⊢)
      replace G:=G.own f23 (z8 r22)
      clear f23 r22 B22
      refine ql ⟨G,?_⟩
      refine eoq 13 (fun w14 F14=>?_)
      have r24:=qo r23 F14
      replace G:=G.trans F14
      clear r23 F14
      have S2':=HS2.out.up G
      go_wp2_with (at_builtin;refine qq zh rfl _ _ 65 rfl Tryz.underlying65 itI rfl (B:=w5.heap.size) _ T3 rfl r24 _ out rfl S2' Nh Lr G.size ?_;intro a25 c25 w25 r25 f25;generalize hT4:T3++out=T4 at r25 ⊢)
      replace G:=G.own f25 (z8 r24)
      clear f25 r24 S2'
      refine ql ⟨G,?_⟩
      refine eoq 14 (fun w15 F15=>?_)
      have r26:=qo r25 F15
      replace G:=G.trans F15
      clear r25 F15
      go_wp2
      refine ql ⟨G,?_⟩
      refine zq Lm (fun w16 F16=>?_)
      have r27:=qo r26 F16
      replace G:=G.trans F16
      clear r26 F16
      have e26:Zh (l.take (i+1))=T4:=by rw [HN.out.1,HT.out.2.2,hT3,hT4]
      rw [<- e26] at r27 ⊢
      have r28:=Q3 r27 FW.size
      go_wp2
      exact ⟨⟨i+1,by omega,by go_num,r28,FW.trans G⟩,by simp [intOf];omega⟩
    ·obtain ⟨y,hy⟩:∃ y,out[j]? = some y:=⟨out[j],List.getElem?_eq_getElem Lj⟩;have HO2:=HO.up F2;have HL2:=h.up (F.trans F2);obtain ⟨go,oo,rfl,y0,y1,y2⟩:=xj HO2 hy;obtain ⟨gl,ol,rfl,x0,x1,x2⟩:=xj HL2 hx;have hj1:((j+1:Nat):Int) - 1=(j:Nat):=by omega
     have hps:=Rx (x:=x) hy;have n0:=qb y0;have n1:=qb y1;have m0:=qb x0;have m1:=qb x1;clear HO2 HL2;by_cases e1:y.k>x.k
     ·have g1:decide (y.k>x.k)=true:=by simpa using e1
      have hg:gtT y x=true:=by unfold gtT;rw [g1];rfl
      have HP:=q9 (show Yf out x (j+1)=Yf out x j by rw [hps,qf hg]);clear hps hg;go_wp2_with fail;refine wiq ?_;repeat (go_big_quiet_step (fail))
      refine wpQuiet_nil ?_;intro w5 F5;go_wp2_with fail;exact ⟨⟨j,by omega,rfl,F2.trans F5,hp.trans HP.out⟩,by simp [intOf]⟩
     have g1:decide (y.k>x.k)=false:=by simpa using e1
     by_cases e2:y.k=x.k
     focus
      have g2:(y.k == x.k)=true:=by simpa using e2
      by_cases e3:y.v>x.v
      ·have g3:decide (y.v>x.v)=true:=by simpa using e3
       have hg:gtT y x=true:=by unfold gtT;rw [g1,g2,g3];rfl
       have HP:=q9 (show Yf out x (j+1)=Yf out x j by rw [hps,qf hg])
       clear hps hg e2
       go_wp2_with fail
       refine wiq ?_
       repeat (go_big_quiet_step (fail))
       refine wpQuiet_nil ?_
       intro w5 F5
       go_wp2_with fail
       exact ⟨⟨j,by omega,rfl,F2.trans F5,hp.trans HP.out⟩,by simp [intOf]⟩
      have g3:decide (y.v>x.v)=false:=by simpa using e3
      have hg:gtT y x=false:=by unfold gtT;rw [g1,g2,g3];rfl
      have HP:=q9 (show Yf out x (j+1)=j+1 by rw [hps,qd (by simp [hg])])
      clear hps hg e2
     rotate_left
     focus
      have g2:(y.k == x.k)=false:=by simpa using e2
      have hg:gtT y x=false:=by unfold gtT;rw [g1,g2];rfl
      have HP:=q9 (show Yf out x (j+1)=j+1 by rw [hps,qd (by simp [hg])])
      clear hps hg
     rotate_left
     all_goals
      go_wp2_with fail
      refine wiq ?_
      repeat (go_big_quiet_step (fail))
      refine wpQuiet_nil ?_
      intro w5 F5
      clear n0 n1 m0 m1 y0 y1 y2 x0 x1 x2
      by_cases hjl:j+1<out.length
      ·go_wp2_with fail
       have FW:=(F.trans F2).trans F5
       have HO5:=HO.up (F2.trans F5)
       have HL5:=q9 (h.up FW)
       refine z7 Lm [] (fun w2 F2'=>?_)
       refine epq [true,true,true,false,true,true,true,true,false,false,true,true,true,false,false] 5 F2' ?_
       apply qg
       refine ⟨fun wf Ff=>?_,?_⟩
       ·obtain ⟨gl',ol',hgl,x0,x1,x2⟩:=xj (HL5.out.up Ff) hx
        simp only [Option.some.injEq,Addr.mk.injEq] at hgl
        obtain ⟨rfl,rfl,-⟩:=hgl
        have j0:=qb x0
        have j1:=qb x1
        have j2:=qb x2
        clear x0 x1 x2
        simp only [sel]
        repeat (go_big_quiet_step (fail))
        exact wpQuiet_nil rfl
       have HS1:=q9 (Sq.take zh HO5 (j+1) Lj)
       have HS2:=q9 (Sq.drop zh HO5 (j+1) Lj)
       have HT:=q9 (show (out.take (j+1)).length<=1000/\(out.drop (j+1)).length<=1000/\Ty out x=out.take (j+1)++[x]++out.drop (j+1) from ⟨by have:=HN.out;simp;omega,by have:=HN.out;simp;omega,by unfold Ty;rw [hp,HP.out]⟩)
       generalize out.take (j+1)=T1 at HS1 HT
       generalize out.drop (j+1)=T2 at HS2 HT
       refine jc [3,8] Lm Ll (fun w10 F10 m hm o ho=>?_)
       have G:=F2'.trans F10
       clear F10 F2'
       simp only [List.mem_cons,List.not_mem_nil,or_false] at hm
       rcases hm with rfl | rfl
       focus
        obtain rfl:=qi ho
        have S1':=HS1.out.up G
        go_wp2_with (at_builtin;refine qq zh rfl _ _ 65 rfl Tryz.underlying65 itI rfl (B:=w5.heap.size) (.slice none 0 0) [] rfl ⟨rfl,.inl ⟨rfl,rfl⟩⟩ _ T1 rfl S1' Mf Lr G.size ?_;intro a21 c21 w21 r21 f21)
        rw [List.nil_append] at r21
        replace G:=G.trans f21
        clear f21 S1'
        refine ql ⟨G,?_⟩
        refine eoq 8 (fun w11 F11=>?_)
        have r11:=qo r21 F11
        replace G:=G.trans F11
        clear r21 F11
        go_wp2_with fail
        have F12:=(Fr.refl [] w11).alloc (.cells #[.int .i64 x.k,.int .i64 x.v,.int .i64 x.d] 74)
        have B21:=Go.heap_alloc_new w11 (.cells #[.int .i64 x.k,.int .i64 x.v,.int .i64 x.d] 74)
        have r21:=qo r11 F12
        replace G:=G.trans F12
        clear r11 F12 ho
       rotate_left
       focus
        obtain rfl:=qi ho
        go_wp2_with fail
        have F12:=(Fr.refl [] w10).alloc (.cells #[.int .i64 x.k,.int .i64 x.v,.int .i64 x.d] 74)
        have B12:=Go.heap_alloc_new w10 (.cells #[.int .i64 x.k,.int .i64 x.v,.int .i64 x.d] 74)
        replace G:=G.trans F12
        clear F12 ho
        refine ql ⟨G,?_⟩
        refine eoq 3 (fun w11 F11=>?_)
        have B13:=F11.heap B12 Ll
        replace G:=G.trans F11
        clear B12 F11
        have S1':=HS1.out.up G
        go_wp2_with (at_builtin;refine qq zh rfl _ _ 65 rfl Tryz.underlying65 itI rfl (B:=w5.heap.size) (.slice none 0 0) [] rfl ⟨rfl,.inl ⟨rfl,rfl⟩⟩ _ T1 rfl S1' Mf Lr G.size ?_;intro a21 c21 w21 r21 f21)
        rw [List.nil_append] at r21
        have B21:=Fr.heap f21 B13 Lt
        replace G:=G.trans f21
        clear f21 B13 S1'
       rotate_left
       all_goals
        refine ql ⟨G,?_⟩
        refine eoq 9 (fun w13 F13=>?_)
        have r22:=qo r21 F13
        have B22:=F13.heap B21 Ll
        replace G:=G.trans F13
        clear r21 B21 F13
        go_wp2_with (at_builtin;refine qq zh rfl _ _ 65 rfl Tryz.underlying65 itI rfl (B:=w5.heap.size) _ T1 rfl r22 _ [x] rfl (Sq.block B22 rfl rfl (Nat.le_refl _) Ly) Mf Lr G.size ?_;intro a23 c23 w23 r23 f23;generalize hT3:T1++[x]=T3 at r23 ⊢)
        replace G:=G.own f23 (z8 r22)
        clear f23 r22 B22
        refine ql ⟨G,?_⟩
        refine eoq 13 (fun w14 F14=>?_)
        have r24:=qo r23 F14
        replace G:=G.trans F14
        clear r23 F14
        have S2':=HS2.out.up G
        go_wp2_with (at_builtin;refine qq zh rfl _ _ 65 rfl Tryz.underlying65 itI rfl (B:=w5.heap.size) _ T3 rfl r24 _ T2 rfl S2' Nh Lr G.size ?_;intro a25 c25 w25 r25 f25;generalize hT4:T3++T2=T4 at r25 ⊢)
        replace G:=G.own f25 (z8 r24)
        clear f25 r24 S2'
        refine ql ⟨G,?_⟩
        refine eoq 14 (fun w15 F15=>?_)
        have r26:=qo r25 F15
        replace G:=G.trans F15
        clear r25 F15
        go_wp2
        refine ql ⟨G,?_⟩
        refine zq Lm (fun w16 F16=>?_)
        have r27:=qo r26 F16
        replace G:=G.trans F16
        clear r26 F16
        have e26:Zh (l.take (i+1))=T4:=by rw [HN.out.1,HT.out.2.2,hT3,hT4]
        rw [<- e26] at r27 ⊢
        have r28:=Q3 r27 FW.size
        go_wp2
        exact ⟨⟨i+1,by omega,by go_num,r28,FW.trans G⟩,by simp [intOf];omega⟩
      have hje:j+1=out.length:=by omega
      go_wp2_with fail
      have FW:=(F.trans F2).trans F5
      have HO5:=HO.up (F2.trans F5)
      have HL5:=q9 (h.up FW)
      refine z7 Lm [] (fun w2 F2'=>?_)
      refine epq [true,true,true,false,true,true,true,true,false,false,true,true,true,false,false] 5 F2' ?_
      apply qg
      refine ⟨fun wf Ff=>?_,?_⟩
      ·obtain ⟨gl',ol',hgl,x0,x1,x2⟩:=xj (HL5.out.up Ff) hx
       simp only [Option.some.injEq,Addr.mk.injEq] at hgl
       obtain ⟨rfl,rfl,-⟩:=hgl
       have j0:=qb x0
       have j1:=qb x1
       have j2:=qb x2
       clear x0 x1 x2
       simp only [sel]
       repeat (go_big_quiet_step (fail))
       exact wpQuiet_nil rfl
      have hc2:co - out.length<=maxLen:=by omega
      generalize co - out.length=c2 at hc2 ⊢
      generalize (if co=out.length then some (⟨go,oo,none⟩:Addr) else some (⟨go,oo+out.length * 3,none⟩:Addr))=a2
      have HS1:=q9 (HO5)
      have HS2:=q9 (Sq.empty (f:=fT) w5 a2 hc2)
      have hend:Yf out x out.length=out.length:=by have:=HP.out;rw [hje] at this;exact this
      obtain ⟨T1,hT1⟩:∃ T1,T1=out:=⟨out,rfl⟩
      have HT:=q9 (show T1.length<=1000/\([]:List It).length<=1000/\Ty out x=T1++[x]++[] from ⟨by rw [hT1];have:=HN.out;omega,by simp,by rw [hT1];unfold Ty;rw [hend,List.take_length,List.drop_length]⟩)
      have HS1:=q9 (show Sq fT w5 (.slice (some ⟨go,oo,none⟩) T1.length co) T1 by rw [hT1];exact HO5)
      rw [<- hT1]
      have HT1:=q9 hT1
      clear hT1 hend
      refine jc [3,8] Lm Ll (fun w10 F10 m hm o ho=>?_)
      have G:=F2'.trans F10
      clear F10 F2'
      simp only [List.mem_cons,List.not_mem_nil,or_false] at hm
      rcases hm with rfl | rfl
      focus
       obtain rfl:=qi ho
       have S1':=HS1.out.up G
       go_wp2_with (at_builtin;refine qq zh rfl _ _ 65 rfl Tryz.underlying65 itI rfl (B:=w5.heap.size) (.slice none 0 0) [] rfl ⟨rfl,.inl ⟨rfl,rfl⟩⟩ _ T1 rfl S1' Mf Lr G.size ?_;intro a21 c21 w21 r21 f21)
       rw [List.nil_append] at r21
       replace G:=G.trans f21
       clear f21 S1'
       refine ql ⟨G,?_⟩
       refine eoq 8 (fun w11 F11=>?_)
       have r11:=qo r21 F11
       replace G:=G.trans F11
       clear r21 F11
       go_wp2_with fail
       have F12:=(Fr.refl [] w11).alloc (.cells #[.int .i64 x.k,.int .i64 x.v,.int .i64 x.d] 74)
       have B21:=Go.heap_alloc_new w11 (.cells #[.int .i64 x.k,.int .i64 x.v,.int .i64 x.d] 74)
       have r21:=qo r11 F12
       replace G:=G.trans F12
       clear r11 F12 ho
      rotate_left
      focus
       obtain rfl:=qi ho
       go_wp2_with fail
       have F12:=(Fr.refl [] w10).alloc (.cells #[.int .i64 x.k,.int .i64 x.v,.int .i64 x.d] 74)
       have B12:=Go.heap_alloc_new w10 (.cells #[.int .i64 x.k,.int .i64 x.v,.int .i64 x.d] 74)
       replace G:=G.trans F12
       clear F12 ho
       refine ql ⟨G,?_⟩
       refine eoq 3 (fun w11 F11=>?_)
       have B13:=F11.heap B12 Ll
       replace G:=G.trans F11
       clear B12 F11
       have S1':=HS1.out.up G
       go_wp2_with (at_builtin;refine qq zh rfl _ _ 65 rfl Tryz.underlying65 itI rfl (B:=w5.heap.size) (.slice none 0 0) [] rfl ⟨rfl,.inl ⟨rfl,rfl⟩⟩ _ T1 rfl S1' Mf Lr G.size ?_;intro a21 c21 w21 r21 f21)
       rw [List.nil_append] at r21
       have B21:=Fr.heap f21 B13 Lt
       replace G:=G.trans f21
       clear f21 B13 S1'
      rotate_left
      all_goals
       refine ql ⟨G,?_⟩
       refine eoq 9 (fun w13 F13=>?_)
       have r22:=qo r21 F13
       have B22:=F13.heap B21 Ll
       replace G:=G.trans F13
       clear r21 B21 F13
       go_wp2_with (at_builtin;refine qq zh rfl _ _ 65 rfl Tryz.underlying65 itI rfl (B:=w5.heap.size) _ T1 rfl r22 _ [x] rfl (Sq.block B22 rfl rfl (Nat.le_refl _) Ly) Mf Lr G.size ?_;intro a23 c23 w23 r23 f23;generalize hT3:T1++[x]=T3 at r23 ⊢)
       replace G:=G.own f23 (z8 r22)
       clear f23 r22 B22
       refine ql ⟨G,?_⟩
       refine eoq 13 (fun w14 F14=>?_)
       have r24:=qo r23 F14
       replace G:=G.trans F14
       clear r23 F14
       have S2':=HS2.out.up G
       go_wp2_with (at_builtin;refine qq zh rfl _ _ 65 rfl Tryz.underlying65 itI rfl (B:=w5.heap.size) _ T3 rfl r24 _ ([]:List It) rfl S2' Nh Lr G.size ?_;intro a25 c25 w25 r25 f25;generalize hT4:T3++([]:List It)=T4 at r25 ⊢)
       replace G:=G.own f25 (z8 r24)
       clear f25 r24 S2'
       refine ql ⟨G,?_⟩
       refine eoq 14 (fun w15 F15=>?_)
       have r26:=qo r25 F15
       replace G:=G.trans F15
       clear r25 F15
       go_wp2
       refine ql ⟨G,?_⟩
       refine zq Lm (fun w16 F16=>?_)
       have r27:=qo r26 F16
       replace G:=G.trans F16
       clear r26 F16
       have e26:Zh (l.take (i+1))=T4:=by rw [HN.out.1,HT.out.2.2,hT3,hT4]
       rw [<- e26] at r27 ⊢
       have r28:=Q3 r27 FW.size
       go_wp2
       exact ⟨⟨i+1,by omega,by go_num,r28,FW.trans G⟩,by simp [intOf];omega⟩
  ·obtain rfl:i=l.length:=by omega
   rw [List.take_length] at hr;have HR:=q9 hr;obtain ⟨ao,co,rfl,-,-⟩:=Qc hr;exact Hn
def fI (x:Int):List Value:=[.int .i64 x]
theorem vq:Lays fI 1:=⟨fun _=>rfl,fun x u hu=>by rw [List.mem_singleton.1 hu];rfl,by decide⟩
theorem q7t:(Tryz.prog.info? 3).map (fun i=>(i.zero,i.size,i.bytes))=some (some (.int .i64 0),1,8):=by kernel_rfl
theorem X0 {w:World} {a:Option Addr} {n cap i:Nat} {xs:List Int} {x:Int} (h:Sq fI w (.slice a n cap) xs) (hi:xs[i]? = some x) :
  ∃ g off,a=some ⟨g,off,none⟩/\w.cell? ⟨g,off+i,none⟩=some (.int .i64 x):=by
 obtain ⟨-,g,off,rfl,hc⟩:=Sq.cell vq h hi;exact ⟨g,off,rfl,by simpa using hc 0 _ rfl⟩
def Xu (x:It) (nx:Option It) (vs:List Int):Bool :=
 nx.all (fun y=>y.k != x.k) || vs.any fun v=>decide (x.v<=v) && (nx.all (fun y=>y.k != x.k) || nx.any fun y=>decide (v<y.v))
def Zn (vs:List Int):List It->List It
 | []=>[]
 | x :: r=>if Xu x r.head? vs=true then x :: Zn vs r else Zn vs r
def Yl (l:List It) (vs:List Int):List It:=Zn vs (Zh l)
end Go.Proofs.YthokjbikomjhgaaGreatDoor.Mx
namespace Go.Proofs.YthokjbikomjhgaaGreatDoor.Mx
def kr (half:Int):Nat->List It->List (List It)->List It->List (List It)
 | 0,_,out,cur=>out++[cur]
 | n+1,l,out,cur =>
  match l with
  | []=>out++[cur]
  | x :: r =>
   let run:=x :: r.takeWhile (fun y=>y.k == x.k)
   if cur≠[]/\half<(cur.length:Int)+run.length then kr half n (r.dropWhile (fun y=>y.k == x.k)) (out++[cur]) run
   else kr half n (r.dropWhile (fun y=>y.k == x.k)) out (cur++run)
def Xx (cells:Int):Int:=max 2 (min cells 16) / 2
def xw (l:List It) (cells:Int):List (List It):=kr (Xx cells) l.length l [] []
def xg (least:Int) (gs:List (List It)):List Int :=
 match gs with
 | []=>[]
 | _ :: r=>least :: r.map fun g=>(g.head?.map It.k).getD 0
end Go.Proofs.YthokjbikomjhgaaGreatDoor.Mx
