/- Parts. -/
import Derived.Test.YtbddhncgemeohaaGreatDoorYaa
import Derived.Test.YtbddhncgemeohaaGreatDoorYae
import Derived.Deep.AppendLies
import Derived.Deep.Upon
import Derived.Laws.OwnMore
set_option linter.unusedVariables false
set_option linter.unusedSimpArgs false
set_option maxRecDepth 100000
set_option maxHeartbeats 12800000
namespace Go.Proofs.YtbddhncgemeohaaGreatDoor.Ar
open Go.RowKit
section
variable {w w':World} {B:Nat} {E:TypeId} {sz n:Nat} {v:Value} {xs:List Value} {S:List Nat}
theorem Q7 (h:w.ownsRow B E sz v n xs) (f:Fr S w w') (hS:∀ g,v.ownBlock=some g->g∉S):w'.ownsRow B E sz v n xs:=by obtain ⟨h1,h2⟩:=h;refine ⟨h1,h2.imp id ?_⟩;rintro ⟨g,cap,cur,rfl,hb,hh,r⟩;exact ⟨g,cap,cur,rfl,hb,f.heap hh (hS g rfl),r⟩
theorem qp (h:w.ownsRow B E sz v n xs) (f:Fr [] w w'):w'.ownsRow B E sz v n xs:=Q7 h f Ma
theorem q2r (h:w.grownBy w' v.ownBlock):Fr v.ownBlock.toList w w' :=
 ⟨h.os,h.tape,h.output,h.size,fun k hk hn=>h.block k hk (fun e=>hn (by rw [<- e];simp))⟩
theorem jl (h:w.ownsRow B E sz v n xs) {b:Nat} {cs:Array Value} {T:TypeId} {fr:Nat×Nat} (hb:w.heap[b]? = some (.cells cs T fr)) (hT:E≠T):b∉v.ownBlock.toList:=by
 rcases h.2 with ⟨rfl,_⟩ | ⟨g,cap,cur,rfl,_,hh,_⟩
 ·simp [Value.ownBlock]
 ·simp only [Value.ownBlock,Option.toList_some,List.mem_singleton];rintro rfl;rw [hh] at hb;simp only [Option.some.injEq,Obj.cells.injEq] at hb;exact hT hb.2.1
theorem zh (h:w.ownsRow B E sz v n xs):∀ g,g∈v.ownBlock.toList->B<=g:=by intro g hg;exact (h.lt g (by simpa using hg)).1
theorem wu {C:Nat} (h:w.ownsRow B E sz v n xs) (hC:C<=B):w.ownsRow C E sz v n xs:=by obtain ⟨h1,h2⟩:=h;refine ⟨h1,h2.imp id ?_⟩;rintro ⟨g,cap,cur,rfl,hb,r⟩;exact ⟨g,cap,cur,rfl,qi hC hb,r⟩
end
theorem kg {w:World} {B:Nat} {E:TypeId} {sz n:Nat} {v:Value} {xs:List Value} (h:w.ownsRow B E sz v n xs) :
  ∃ a cap,v = .slice a n cap/\n<=maxLen/\(n=0\/∃ g,a=some ⟨g,0,none⟩/\g<w.heap.size/\∀ j x,xs[j]? = some x->w.cell? ⟨g,j,none⟩=some x):=by
 obtain ⟨h1,h2⟩:=h;rcases h2 with ⟨rfl,rfl⟩ | ⟨g,cap,cur,rfl,-,hh,hc1,hc2,hs,ht⟩
 ·exact ⟨none,0,rfl,by simp [maxLen],.inl rfl⟩
 ·refine ⟨_,_,rfl,by omega,.inr ⟨g,rfl,(Array.getElem?_eq_some_iff.1 hh).1,fun j x hx=>?_⟩⟩;rw [cell_of_row _ _ _ _ _ _ hh];have hj:j<n * sz:=by rw [<- h1];exact (List.getElem?_eq_some_iff.1 hx).1
  rw [<- ht,List.getElem?_take_of_lt hj] at hx;simpa using hx
end Go.Proofs.YtbddhncgemeohaaGreatDoor.Ar
namespace Go.Proofs.YtbddhncgemeohaaGreatDoor.Mx
open Go.RowKit Ar
section
variable {α:Type} {f:α->List Value} {sz:Nat}
structure Lays (f:α->List Value) (sz:Nat):Prop where
 len:∀ x,(f x).length=sz
 one:∀ x,∀ u∈f x,u.oneCell'=true
 pos:0<sz
theorem Lays.flat (h:Lays f sz) (xs:List α):(xs.flatMap f).length=xs.length * sz:=by
 induction xs with
 | nil=>simp
 | cons x xs ih=>rw [List.flatMap_cons,List.length_append,ih,h.len,List.length_cons,Nat.succ_mul];omega
theorem Lays.ones (h:Lays f sz) (xs:List α):∀ u∈xs.flatMap f,u.oneCell'=true:=by intro u hu;obtain ⟨x,-,hx⟩:=List.mem_flatMap.1 hu;exact h.one x u hx
theorem Lays.parts (h:Lays f sz) (xs:List α) (k:Nat) (hk:k<=xs.length):(xs.take k).flatMap f++(xs.drop k).flatMap f=xs.flatMap f/\((xs.take k).flatMap f).length=k * sz :=
 ⟨by rw [<- List.flatMap_append,List.take_append_drop],by rw [h.flat,List.length_take,Nat.min_eq_left hk]⟩
theorem Lays.take (h:Lays f sz) (xs:List α) (k:Nat) (hk:k<=xs.length):(xs.take k).flatMap f=(xs.flatMap f).take (k * sz):=by obtain ⟨e,l⟩:=h.parts xs k hk;rw [<- e];exact (List.take_left' l).symm
theorem Lays.drop (h:Lays f sz) (xs:List α) (k:Nat) (hk:k<=xs.length):(xs.drop k).flatMap f=(xs.flatMap f).drop (k * sz):=by obtain ⟨e,l⟩:=h.parts xs k hk;rw [<- e];exact (List.drop_left' l).symm
theorem Lays.at (h:Lays f sz) {xs:List α} {i j:Nat} {x:α} (hi:xs[i]? = some x) (hj:j<sz):(xs.flatMap f)[i * sz+j]? = (f x)[j]?:=by
 induction xs generalizing i with
 | nil=>simp at hi
 | cons y xs ih =>
  rw [List.flatMap_cons];cases i with
  | zero =>
   simp at hi;subst hi;rw [Nat.zero_mul,Nat.zero_add,List.getElem?_append_left (by rw [h.len];exact hj)]
  | succ i =>
   rw [List.getElem?_append_right (by rw [h.len,Nat.succ_mul];omega),h.len,Nat.succ_mul,show i * sz+sz+j - sz=i * sz+j by omega];exact ih (by simpa using hi)
def Sq (f:α->List Value) (w:World) (v:Value) (xs:List α):Prop:=∃ a cap,v = .slice a xs.length cap/\xs.length<=cap/\cap<=maxLen /\
 (xs.length=0\/∃ g off,a=some ⟨g,off,none⟩/\g<w.heap.size/\∀ j u,(xs.flatMap f)[j]? = some u->w.cell? ⟨g,off+j,none⟩=some u)
theorem Sq.kept {S:List Nat} {w w':World} {v:Value} {xs:List α} (h:Sq f w v xs) (k:Fr S w w') (hS:∀ g,g∈v.ownBlock.toList->g∉S):Sq f w' v xs:=by obtain ⟨a,cap,rfl,h1,h2,h3⟩:=h;refine ⟨a,cap,rfl,h1,h2,h3.imp id ?_⟩;rintro ⟨g,off,rfl,hg,hc⟩;exact ⟨g,off,rfl,ql hg k.size,fun j u hu=>k.cell (hc j u hu) (hS g Mo)⟩
theorem Sq.up {w w':World} {v:Value} {xs:List α} (h:Sq f w v xs) (k:Fr [] w w'):Sq f w' v xs:=h.kept k Ma
theorem Sq.nil (w:World):Sq f w (.slice none 0 0) []:=⟨none,0,rfl,Nat.le_refl _,by simp [maxLen],.inl rfl⟩
theorem Sq.own {w:World} {B:Nat} {E:TypeId} {v:Value} {xs:List α} (h:w.ownsRow B E sz v xs.length (xs.flatMap f)):Sq f w v xs:=by
 obtain ⟨h1,h2⟩:=h;rcases h2 with ⟨rfl,e0⟩ | ⟨g,cap,cur,rfl,-,hh,hc1,hc2,hs,ht⟩
 ·have h0:xs.length=0:=by first | exact e0 | omega
  exact ⟨none,0,by rw [h0],by omega,by simp [maxLen],.inl h0⟩
 ·refine ⟨_,cap,rfl,hc1,hc2,.inr ⟨g,0,rfl,(Array.getElem?_eq_some_iff.1 hh).1,fun j u hu=>?_⟩⟩;rw [Nat.zero_add,cell_of_row _ _ _ _ _ _ hh];have hj:j<xs.length * sz:=by rw [<- h1];exact (List.getElem?_eq_some_iff.1 hu).1
  rw [<- ht,List.getElem?_take_of_lt hj] at hu;simpa using hu
theorem Sq.cell (hL:Lays f sz) {w:World} {a:Option Addr} {n cap:Nat} {xs:List α} (h:Sq f w (.slice a n cap) xs) {i:Nat} {x:α} (hi:xs[i]? = some x) :
  n=xs.length/\∃ g off,a=some ⟨g,off,none⟩/\∀ j u,(f x)[j]? = some u->w.cell? ⟨g,off+i * sz+j,none⟩=some u:=by
 obtain ⟨a',cap',e,h1,h2,h3⟩:=h;simp only [Value.slice.injEq] at e;obtain ⟨rfl,rfl,rfl⟩:=e;refine ⟨rfl,?_⟩;have hlt:=(List.getElem?_eq_some_iff.1 hi).1;rcases h3 with h0 | ⟨g,off,rfl,-,hc⟩
 ·omega
 ·refine ⟨g,off,rfl,fun j u hu=>?_⟩;have hj:j<sz:=by have:=(List.getElem?_eq_some_iff.1 hu).1;rw [hL.len] at this;exact this
  rw [Nat.add_assoc];exact hc _ _ ((hL.at hi hj).trans hu)
theorem Sq.take (hL:Lays f sz) {w:World} {a:Option Addr} {n cap:Nat} {xs:List α} (h:Sq f w (.slice a n cap) xs) (k:Nat) (hk:k<=xs.length):Sq f w (.slice a k cap) (xs.take k):=by
 obtain ⟨a',cap',e,h1,h2,h3⟩:=h;simp only [Value.slice.injEq] at e;obtain ⟨rfl,rfl,rfl⟩:=e;have hl:(xs.take k).length=k:=by simp [Nat.min_eq_left hk]
 refine ⟨a,cap,by rw [hl],by omega,h2,?_⟩;rcases h3 with h0 | ⟨g,off,rfl,hg,hc⟩
 ·exact .inl Ly
 ·refine .inr ⟨g,off,rfl,hg,fun j u hu=>hc j u ?_⟩;rw [hL.take xs k hk] at hu;have hj:=(List.getElem?_eq_some_iff.1 hu).1;rw [List.length_take] at hj;rw [List.getElem?_take_of_lt Ly] at hu;exact hu
theorem Sq.drop (hL:Lays f sz) {w:World} {g off n cap:Nat} {xs:List α} (h:Sq f w (.slice (some ⟨g,off,none⟩) n cap) xs) (k:Nat) (hk:k<=xs.length):Sq f w (.slice (some ⟨g,off+k * sz,none⟩) (xs.length - k) (cap - k)) (xs.drop k):=by
 obtain ⟨a',cap',e,h1,h2,h3⟩:=h;simp only [Value.slice.injEq] at e;obtain ⟨rfl,rfl,rfl⟩:=e;have hl:(xs.drop k).length=xs.length - k:=by simp
 refine ⟨_,cap - k,by rw [hl],by omega,by omega,?_⟩;rcases h3 with h0 | ⟨g',off',e,hg,hc⟩
 ·exact .inl Ly
 ·simp only [Option.some.injEq,Addr.mk.injEq] at e;obtain ⟨rfl,rfl,-⟩:=e;refine .inr ⟨g,off+k * sz,rfl,hg,fun j u hu=>?_⟩;rw [hL.drop xs k hk,List.getElem?_drop] at hu;rw [Nat.add_assoc];exact hc _ _ hu
theorem Sq.block {w:World} {b n c:Nat} {cs:Array Value} {T:TypeId} {xs:List α} (h:w.heap[b]? = some (.cells cs T (0,0))) (hx:xs.flatMap f=cs.toList) (hn:xs.length=n) (h1:n<=c) (h2:c<=maxLen):Sq f w (.slice (some ⟨b,0,none⟩) n c) xs:=by subst hn;refine ⟨_,c,rfl,h1,h2,.inr ⟨b,0,rfl,(Array.getElem?_eq_some_iff.1 h).1,fun j u hu=>?_⟩⟩;rw [cell_of_row _ _ _ _ _ _ h,Nat.zero_add];rw [hx] at hu;simpa using hu
theorem Sq.empty (w:World) (a:Option Addr) {c:Nat} (h:c<=maxLen):Sq f w (.slice a 0 c) []:=⟨a,c,rfl,Nat.zero_le _,h,.inl rfl⟩
theorem addr_add (b o j:Nat):(⟨b,o,none⟩:Addr).add j=⟨b,o+j,none⟩:=by
 unfold Addr.add;split
 ·rename_i h;subst h;rfl
 ·rfl
theorem qw {P:Program} {w:World} {ops:Array Oper} {rest:List Oper} {o:Oper} {a:Act} {Q:Exit->Act->World->Prop} (hL:Lays f sz) (hgd:o.guard=none) (s x:Operand) (t:TypeId)
  (ho:o.op = .call { callee:=.builtin .append,args:=#[s,x],argTypes:=#[t,t] }) {E:TypeId} {z:Value} {bytes:Nat} (ht:P.underlying t=some (.slice E)) (hi:(P.info? E).map (fun i=>(i.zero,i.size,i.bytes))=some (some z,sz,bytes)) (hzs:z.cells.size=sz)
  {B:Nat} (v:Value) (os:List α) (hs:a.eval s=v) (hown:w.ownsRow B E sz v os.length (os.flatMap f)) (xv:Value) (ps:List α) (hx:a.eval x=xv) (hp:Sq f w xv ps)
  (hl:os.length+ps.length<=1000000) (hb:bytes<=1000) (hbase:B<=w.heap.size)
  (h:∀ a' c' w',w'.ownsRow B E sz (.slice a' (os++ps).length c') (os++ps).length ((os++ps).flatMap f)->Fr v.ownBlock.toList w w'->wpList P ops Q rest (a.put o.dst (.slice a' (os++ps).length c')) w'):wpList P ops Q (o :: rest) a w:=by
 obtain ⟨ad,cap,rfl,hcap,hm,hc⟩:=hp;obtain ⟨i,hi0,hz,hs0,hb0⟩:=info_parts hi;have hbytes:(os.length+ps.length) * bytes<=140737488355328:=qi (Nat.mul_le_mul hl hb) Mg
 have go:∀ (ad:Addr),(∀ j u,(ps.flatMap f)[j]? = some u->w.cell? (ad.add j)=some u)->a.eval x = .slice (some ad) ps.length cap->wpList P ops Q (o :: rest) a w:=by
  intro ad hcell hx;refine wpList_append_own_at w hgd s x t ho B E i _ sz bytes ht hi0 hz hs0 hb0 hzs hL.pos v os.length _ hs hown ad ps.length cap (ps.flatMap f) hx (hL.flat ps) hcell (hL.ones ps) O6 hbytes hbase fun v' w' h2 h3 _ _=>?_
  rw [<- List.flatMap_append,<- List.length_append] at h2;obtain ⟨a',c',rfl,-,-⟩:=kg h2;exact h a' c' w' h2 (q2r h3)
 have hnil:ps.length=0->wpList P ops Q (o :: rest) a w:=by
  intro h0;obtain rfl:ps=[]:=List.eq_nil_of_length_eq_zero h0;cases ad with
  | some ad=>exact go ad (fun j u hu=>by simp at hu) hx
  | none =>
   have hown':=hown;obtain ⟨hxl,hv⟩:=hown
   have hle:∃ b0 c0,v = .slice b0 os.length c0/\os.length<=c0:=Ci
   obtain ⟨b0,c0,rfl,hle⟩:=hle;refine wpList_plain hgd fun K hK=>?_
   have hr:=run_append_nothing (P:=P) w t t o.type E i ht hi0 b0 os.length c0 hle (.slice none 0 cap) (by rw [hs0];exact Src.ofNil w ht cap);unfold Oper.wp execOp;have hx':a.eval x = .slice none 0 cap:=hx;simp only [ho,resolve,invoke,builtin,Sem.run_bind,Sem.run_pure,Result.andThen_ok,List.map_toArray,List.map_cons,List.map_nil,hs,hx',hr];have h':=h b0 c0 w;rw [List.append_nil] at h';exact hK _ _ (h' hown' (Fr.refl _ _))
 exact Dq
end
section
variable {α:Type} {f:α->List Value} {sz:Nat}
theorem Q0 {P:Program} {w:World} {ops:Array Oper} {rest:List Oper} {o:Oper} {a:Act} {Q:Exit->Act->World->Prop} (hL:Lays f sz) (hgd:o.guard=none) (s x:Operand) (t:TypeId)
  (ho:o.op = .call { callee:=.builtin .append,args:=#[s,x],argTypes:=#[t,t] }) {E:TypeId} {z:Value} {bytes:Nat} (ht:P.underlying t=some (.slice E)) (hi:(P.info? E).map (fun i=>(i.zero,i.size,i.bytes))=some (some z,sz,bytes)) (hzs:z.cells.size=sz)
  {B:Nat} (v:Value) (os:List α) (hs:a.eval s=v) (hown:w.ownsRow B E sz v os.length (os.flatMap f)) (xv:Value) (ps:List α) (hx:a.eval x=xv) (hp:Sq f w xv ps)
  (hl:os.length+ps.length<=1000000) (hb:bytes<=1000) (hbase:B<=w.heap.size)
  (h:∀ a' c' w',w'.ownsRow B E sz (.slice a' (os++ps).length c') (os++ps).length ((os++ps).flatMap f)->Fr v.ownBlock.toList w w'->(∀ g,g∈(Value.slice a' (os++ps).length c').ownBlock.toList->g∈v.ownBlock.toList\/g=w.heap.size)->wpList P ops Q rest (a.put o.dst (.slice a' (os++ps).length c')) w'):wpList P ops Q (o :: rest) a w:=by
 obtain ⟨ad,cap,rfl,hcap,hm,hc⟩:=hp;obtain ⟨i,hi0,hz,hs0,hb0⟩:=info_parts hi;have hbytes:(os.length+ps.length) * bytes<=140737488355328:=qi (Nat.mul_le_mul hl hb) Mg
 have go:∀ (ad:Addr),(∀ j u,(ps.flatMap f)[j]? = some u->w.cell? (ad.add j)=some u)->a.eval x = .slice (some ad) ps.length cap->wpList P ops Q (o :: rest) a w:=by
  intro ad hcell hx;refine wpList_append_own_at w hgd s x t ho B E i _ sz bytes ht hi0 hz hs0 hb0 hzs hL.pos v os.length _ hs hown ad ps.length cap (ps.flatMap f) hx (hL.flat ps) hcell (hL.ones ps) O6 hbytes hbase fun v' w' h2 h3 _ h5=>?_
  rw [<- List.flatMap_append,<- List.length_append] at h2;obtain ⟨a',c',rfl,-,-⟩:=kg h2
  exact h a' c' w' h2 (q2r h3) (fun g hg=>by
   rcases h5 with h5 | h5
   ·rw [h5] at hg;exact .inl hg
   ·rw [h5] at hg;simp at hg;exact .inr hg)
 have hnil:ps.length=0->wpList P ops Q (o :: rest) a w:=by
  intro h0;obtain rfl:ps=[]:=List.eq_nil_of_length_eq_zero h0;cases ad with
  | some ad=>exact go ad (fun j u hu=>by simp at hu) hx
  | none =>
   have hown':=hown;obtain ⟨hxl,hv⟩:=hown
   have hle:∃ b0 c0,v = .slice b0 os.length c0/\os.length<=c0:=Ci
   obtain ⟨b0,c0,rfl,hle⟩:=hle;refine wpList_plain hgd fun K hK=>?_
   have hr:=run_append_nothing (P:=P) w t t o.type E i ht hi0 b0 os.length c0 hle (.slice none 0 cap) (by rw [hs0];exact Src.ofNil w ht cap);unfold Oper.wp execOp;have hx':a.eval x = .slice none 0 cap:=hx;simp only [ho,resolve,invoke,builtin,Sem.run_bind,Sem.run_pure,Result.andThen_ok,List.map_toArray,List.map_cons,List.map_nil,hs,hx',hr];have h':=h b0 c0 w;rw [List.append_nil] at h';exact hK _ _ (h' hown' (Fr.refl _ _) (fun g hg=>.inl hg))
 exact Dq
end
section
variable {α:Type} {f:α->List Value} {sz:Nat}
def Xu (ms:List α) (z:α) (i:Nat):List α:=ms.take i++List.replicate (ms.length - i) z
theorem q5a (ms:List α) (z:α):Xu ms z 0=List.replicate ms.length z:=by simp [Xu]
theorem q9f (ms:List α) (z:α) {i:Nat} (h:i<=ms.length):(Xu ms z i).length=ms.length:=by simp [Xu];omega
theorem S0 (ms:List α) (z:α) {i:Nat} (h:i<ms.length):Xu ms z i=ms.take i++z :: List.replicate (ms.length - (i+1)) z:=by unfold Xu;rw [show ms.length - i=(ms.length - (i+1))+1 by omega,List.replicate_succ]
theorem qa6 {ms:List α} (z:α) {i:Nat} {v:α} (h:ms[i]? = some v):(Xu ms z i).set i v=Xu ms z (i+1):=by have hl:=(List.getElem?_eq_some_iff.1 h).1;rw [S0 ms z hl];unfold Xu;rw [List.take_add_one,h,Option.toList_some,List.append_assoc,List.set_append_right _ _ (by rw [List.length_take];omega),show i - (ms.take i).length=0 by rw [List.length_take];omega];rfl
theorem qb3 {ms:List α} (z:α) {i:Nat} (h:i<ms.length):(Xu ms z i)[i]? = some z:=by rw [S0 ms z h,List.getElem?_append_right (by rw [List.length_take];omega),show i - (ms.take i).length=0 by rw [List.length_take];omega];rfl
theorem q60 {ms:List α} (z:α) {i j:Nat} (h:j<i) (hj:j<ms.length):(Xu ms z i)[j]? = ms[j]?:=by unfold Xu;rw [List.getElem?_append_left Ml,List.getElem?_take_of_lt h]
theorem q7b (hL:Lays f sz) (z:α) (zs:Array Value) (hz:zs.toList=f z) (n:Nat):(madeCells zs (n * sz)).toList=(List.replicate n z).flatMap f:=by
 have hzs:zs.size=sz:=by rw [<- Array.length_toList,hz,hL.len]
 apply List.ext_getElem?;intro k;by_cases hk:k<n * sz
 ·have h1:k / sz<n:=(Nat.div_lt_iff_lt_mul hL.pos).2 hk;have h2:k % sz<sz:=Nat.mod_lt _ hL.pos;have h3:k=(k / sz) * sz+k % sz:=by rw [Nat.mul_comm];exact (Nat.div_add_mod k sz).symm
  have e:((List.replicate n z).flatMap f)[k]? = (f z)[k % sz]?:=by have:=hL.at (xs:=List.replicate n z) (i:=k / sz) (j:=k % sz) (x:=z) (by rw [List.getElem?_replicate];simp [h1]) h2;rw [<- h3] at this;exact this
  rw [e,<- hz];simp only [madeCells,Array.toList_map,Array.toList_range,List.getElem?_map,List.getElem?_range hk,Option.map_some,hzs];rw [Array.getElem?_toList,getElem!_pos zs (k % sz) (by rw [hzs];exact h2)];rw [Array.getElem?_eq_getElem]
 ·rw [List.getElem?_eq_none (by simp [madeCells];omega),List.getElem?_eq_none (by rw [hL.flat];simp;omega)]
theorem Rz {P:Program} {w:World} {ops:Array Oper} {rest:List Oper} {o:Oper} {a:Act} {Q:Exit->Act->World->Prop} (hL:Lays f sz) (hg:o.guard=none) (l c:Operand) (t:TypeId) (hop:o.op=Op.makeSlice t l c)
  {E:TypeId} {z:Value} {bytes:Nat} (ht:P.underlying t=some (.slice E)) (hi:(P.info? E).map (fun i=>(i.zero,i.size,i.bytes))=some (some z,sz,bytes)) (z0:α) (hz:z.cells.toList=f z0)
  (n:Nat) (hl:a.eval l = .int .i64 (n:Int)) (hc:a.eval c = .int .i64 (n:Int)) (hn:n<=1000000) (hb:bytes<=1000)
  (hK:∀ w',Ob w' w.heap.size E ((List.replicate n z0).flatMap f).toArray->Fr [] w w'->wpList P ops Q rest (a.put o.dst (.slice (some ⟨w.heap.size,0,none⟩) n n)) w'):wpList P ops Q (o :: rest) a w:=by
 obtain ⟨i,hi0,hz0,hs0,hb0⟩:=info_parts hi;refine wpList_make_full w hg l c t hop 0 E i z sz ht hi0 hz0 hs0 .i64 .i64 _ _ n hl hc rfl rfl (by rw [hb0];have:=Nat.mul_le_mul hb hn;omega) O6 (Nat.zero_le _) fun w' hown hgr=>?_
 refine hK w' ?_ (Fr.grown hgr);obtain ⟨-,hown⟩:=hown;rcases hown with ⟨e1,-⟩ | ⟨g,cap,cur,e1,-,hh,hc1,hc2,hs,ht2⟩
 ·simp at e1
 simp only [Value.slice.injEq,Option.some.injEq,Addr.mk.injEq] at e1;obtain ⟨⟨rfl,-⟩,-,rfl⟩:=e1;rw [q7b hL z0 _ hz,List.take_of_length_le Ml] at ht2;have:cur=((List.replicate n z0).flatMap f).toArray:=by rw [<- ht2]
 rw [this] at hh;exact hh
theorem Uv (hL:Lays f sz):∀ {xs:List α} {i j:Nat} {x x':α} {u:Value},xs[i]? = some x->j<sz->f x'=(f x).set j u->(xs.flatMap f).set (i * sz+j) u=(xs.set i x').flatMap f
 | [],i,j,x,x',u,h,_,_=>by simp at h
 | y :: xs,0,j,x,x',u,h,hj,hf=>by
  obtain rfl:y=x:=by simpa using h
  rw [List.flatMap_cons,List.set_cons_zero,List.flatMap_cons,Nat.zero_mul,Nat.zero_add,List.set_append_left _ _ (by rw [hL.len];exact hj),hf]
 | y :: xs,i+1,j,x,x',u,h,hj,hf=>by
  rw [List.flatMap_cons,List.set_cons_succ,List.flatMap_cons,List.set_append_right _ _ (by rw [hL.len,Nat.succ_mul];omega),hL.len,Nat.succ_mul,show i * sz+sz+j - sz=i * sz+j by omega,Uv hL Pz hj hf]
theorem Ob.seg (hL:Lays f sz) {w:World} {b:Nat} {T:TypeId} {xs:List α} (o:Ob w b T (xs.flatMap f).toArray) {i j:Nat} {x x':α} {u:Value} (hi:xs[i]? = some x) (hj:j<sz) (hf:f x'=(f x).set j u) :
  Ob (w.setCell ⟨b,i * sz+j,none⟩ u) b T ((xs.set i x').flatMap f).toArray:=by
 have:=o.set (i:=i * sz+j) u
 have e:(xs.flatMap f).toArray.setIfInBounds (i * sz+j) u=((xs.set i x').flatMap f).toArray:=by rw [<- Uv hL hi hj hf];simp
 rw [e] at this;exact this
theorem Ob.segCell (hL:Lays f sz) {w:World} {b:Nat} {T:TypeId} {xs:List α} (o:Ob w b T (xs.flatMap f).toArray) {i j:Nat} {x:α} {u:Value} (hi:xs[i]? = some x) (hj:(f x)[j]? = some u):w.cell? ⟨b,i * sz+j,none⟩=some u:=by
 refine o.cell ?_;have hj':j<sz:=by have:=(List.getElem?_eq_some_iff.1 hj).1;rw [hL.len] at this;exact this
 rw [List.getElem?_toArray,hL.at hi hj'];exact hj
theorem Ob.sq (hL:Lays f sz) {w:World} {b:Nat} {T:TypeId} {xs:List α} (o:Ob w b T (xs.flatMap f).toArray) (hm:xs.length<=1000000):Sq f w (.slice (some ⟨b,0,none⟩) xs.length xs.length) xs :=
 Sq.block o Ma rfl (Nat.le_refl _) O6
end
end Go.Proofs.YtbddhncgemeohaaGreatDoor.Mx
