/- Parts. -/
import Derived.Test.YtppajakfaomkaaaGreatDoorYaa
import Derived.Test.YtppajakfaomkaaaGreatDoorYaj
import Derived.Test.YtppajakfaomkaaaGreatDoorYak
import Derived.Test.YtppajakfaomkaaaGreatDoorYal
import Derived.Deep.Upon
set_option linter.unusedVariables false
set_option linter.unusedSimpArgs false
set_option maxRecDepth 100000
set_option maxHeartbeats 12800000
namespace Go.Proofs.YtppajakfaomkaaaGreatDoor.Mx
open Go.RowKit Ar
section
variable {α:Type} {f:α->List Value} {sz:Nat}
structure Lays (f:α->List Value) (sz:Nat):Prop where
 len:∀ x,(f x).length=sz
 one:∀ x,∀ u∈f x,u.oneCell'=true
 pos:0<sz
theorem Lays.flat (h:Lays f sz) (xs:List α):(xs.flatMap f).length=xs.length * sz:=by
 induction xs with
 | nil=>simp
 | cons x xs ih=>rw [List.flatMap_cons,List.length_append,ih,h.len,List.length_cons,Nat.succ_mul];omega
theorem Lays.ones (h:Lays f sz) (xs:List α):∀ u∈xs.flatMap f,u.oneCell'=true:=by
 intro u hu
 obtain ⟨x,-,hx⟩:=List.mem_flatMap.1 hu
 exact h.one x u hx
theorem Lays.parts (h:Lays f sz) (xs:List α) (k:Nat) (hk:k<=xs.length):(xs.take k).flatMap f++(xs.drop k).flatMap f=xs.flatMap f/\((xs.take k).flatMap f).length=k * sz :=
 ⟨by rw [<- List.flatMap_append,List.take_append_drop],by rw [h.flat,List.length_take,Nat.min_eq_left hk]⟩
theorem Lays.take (h:Lays f sz) (xs:List α) (k:Nat) (hk:k<=xs.length):(xs.take k).flatMap f=(xs.flatMap f).take (k * sz):=by
 obtain ⟨e,l⟩:=h.parts xs k hk
 rw [<- e];exact (List.take_left' l).symm
theorem Lays.drop (h:Lays f sz) (xs:List α) (k:Nat) (hk:k<=xs.length):(xs.drop k).flatMap f=(xs.flatMap f).drop (k * sz):=by
 obtain ⟨e,l⟩:=h.parts xs k hk
 rw [<- e];exact (List.drop_left' l).symm
theorem Lays.at (h:Lays f sz) {xs:List α} {i j:Nat} {x:α} (hi:xs[i]? = some x) (hj:j<sz):(xs.flatMap f)[i * sz+j]? = (f x)[j]?:=by
 induction xs generalizing i with
 | nil=>simp at hi
 | cons y xs ih =>
  rw [List.flatMap_cons]
  cases i with
  | zero =>
   simp at hi;subst hi
   rw [Nat.zero_mul,Nat.zero_add,List.getElem?_append_left (by rw [h.len];exact hj)]
  | succ i =>
   rw [List.getElem?_append_right (by rw [h.len,Nat.succ_mul];omega),h.len,Nat.succ_mul,show i * sz+sz+j - sz=i * sz+j by omega]
   exact ih (by simpa using hi)
def Sq (f:α->List Value) (w:World) (v:Value) (xs:List α):Prop:=∃ a cap,v = .slice a xs.length cap/\xs.length<=cap/\cap<=maxLen /\
 (xs.length=0\/∃ g off,a=some ⟨g,off,none⟩/\g<w.heap.size/\∀ j u,(xs.flatMap f)[j]? = some u->w.cell? ⟨g,off+j,none⟩=some u)
theorem Sq.kept {S:List Nat} {w w':World} {v:Value} {xs:List α} (h:Sq f w v xs) (k:Fr S w w') (hS:∀ g,g∈v.ownBlock.toList->g∉S):Sq f w' v xs:=by
 obtain ⟨a,cap,rfl,h1,h2,h3⟩:=h
 refine ⟨a,cap,rfl,h1,h2,h3.imp id ?_⟩
 rintro ⟨g,off,rfl,hg,hc⟩
 exact ⟨g,off,rfl,qj hg k.size,fun j u hu=>k.cell (hc j u hu) (hS g (by simp [Value.ownBlock]))⟩
theorem Sq.up {w w':World} {v:Value} {xs:List α} (h:Sq f w v xs) (k:Fr [] w w'):Sq f w' v xs:=h.kept k (by simp)
theorem Sq.nil (w:World):Sq f w (.slice none 0 0) []:=⟨none,0,rfl,Nat.le_refl _,by simp [maxLen],.inl rfl⟩
theorem Sq.own {w:World} {B:Nat} {E:TypeId} {v:Value} {xs:List α} (h:w.ownsRow B E sz v xs.length (xs.flatMap f)):Sq f w v xs:=by
 obtain ⟨h1,h2⟩:=h
 rcases h2 with ⟨rfl,e0⟩ | ⟨g,cap,cur,rfl,-,hh,hc1,hc2,hs,ht⟩
 ·have h0:xs.length=0:=by first | exact e0 | omega
  exact ⟨none,0,by rw [h0],by omega,by simp [maxLen],.inl h0⟩
 ·refine ⟨_,cap,rfl,hc1,hc2,.inr ⟨g,0,rfl,(Array.getElem?_eq_some_iff.1 hh).1,fun j u hu=>?_⟩⟩
  rw [Nat.zero_add,cell_of_row _ _ _ _ _ _ hh]
  have hj:j<xs.length * sz:=by rw [<- h1];exact (List.getElem?_eq_some_iff.1 hu).1
  rw [<- ht,List.getElem?_take_of_lt hj] at hu
  simpa using hu
theorem Sq.cell (hL:Lays f sz) {w:World} {a:Option Addr} {n cap:Nat} {xs:List α} (h:Sq f w (.slice a n cap) xs) {i:Nat} {x:α} (hi:xs[i]? = some x) :
  n=xs.length/\∃ g off,a=some ⟨g,off,none⟩/\∀ j u,(f x)[j]? = some u->w.cell? ⟨g,off+i * sz+j,none⟩=some u:=by
 obtain ⟨a',cap',e,h1,h2,h3⟩:=h
 simp only [Value.slice.injEq] at e
 obtain ⟨rfl,rfl,rfl⟩:=e
 refine ⟨rfl,?_⟩
 have hlt:=(List.getElem?_eq_some_iff.1 hi).1
 rcases h3 with h0 | ⟨g,off,rfl,-,hc⟩
 ·omega
 ·refine ⟨g,off,rfl,fun j u hu=>?_⟩
  have hj:j<sz:=by have:=(List.getElem?_eq_some_iff.1 hu).1;rw [hL.len] at this;exact this
  rw [Nat.add_assoc]
  exact hc _ _ ((hL.at hi hj).trans hu)
theorem Sq.take (hL:Lays f sz) {w:World} {a:Option Addr} {n cap:Nat} {xs:List α} (h:Sq f w (.slice a n cap) xs) (k:Nat) (hk:k<=xs.length):Sq f w (.slice a k cap) (xs.take k):=by
 obtain ⟨a',cap',e,h1,h2,h3⟩:=h
 simp only [Value.slice.injEq] at e
 obtain ⟨rfl,rfl,rfl⟩:=e
 have hl:(xs.take k).length=k:=by simp [Nat.min_eq_left hk]
 refine ⟨a,cap,by rw [hl],by omega,h2,?_⟩
 rcases h3 with h0 | ⟨g,off,rfl,hg,hc⟩
 ·exact .inl (by omega)
 ·refine .inr ⟨g,off,rfl,hg,fun j u hu=>hc j u ?_⟩
  rw [hL.take xs k hk] at hu
  have hj:=(List.getElem?_eq_some_iff.1 hu).1
  rw [List.length_take] at hj
  rw [List.getElem?_take_of_lt (by omega)] at hu
  exact hu
theorem Sq.drop (hL:Lays f sz) {w:World} {g off n cap:Nat} {xs:List α} (h:Sq f w (.slice (some ⟨g,off,none⟩) n cap) xs) (k:Nat) (hk:k<=xs.length):Sq f w (.slice (some ⟨g,off+k * sz,none⟩) (xs.length - k) (cap - k)) (xs.drop k):=by
 obtain ⟨a',cap',e,h1,h2,h3⟩:=h
 simp only [Value.slice.injEq] at e
 obtain ⟨rfl,rfl,rfl⟩:=e
 have hl:(xs.drop k).length=xs.length - k:=by simp
 refine ⟨_,cap - k,by rw [hl],by omega,by omega,?_⟩
 rcases h3 with h0 | ⟨g',off',e,hg,hc⟩
 ·exact .inl (by omega)
 ·simp only [Option.some.injEq,Addr.mk.injEq] at e
  obtain ⟨rfl,rfl,-⟩:=e
  refine .inr ⟨g,off+k * sz,rfl,hg,fun j u hu=>?_⟩
  rw [hL.drop xs k hk,List.getElem?_drop] at hu
  rw [Nat.add_assoc]
  exact hc _ _ hu
theorem Sq.block {w:World} {b n c:Nat} {cs:Array Value} {T:TypeId} {xs:List α} (h:w.heap[b]? = some (.cells cs T (0,0))) (hx:xs.flatMap f=cs.toList) (hn:xs.length=n) (h1:n<=c) (h2:c<=maxLen):Sq f w (.slice (some ⟨b,0,none⟩) n c) xs:=by
 subst hn
 refine ⟨_,c,rfl,h1,h2,.inr ⟨b,0,rfl,(Array.getElem?_eq_some_iff.1 h).1,fun j u hu=>?_⟩⟩
 rw [cell_of_row _ _ _ _ _ _ h,Nat.zero_add]
 rw [hx] at hu
 simpa using hu
theorem Sq.empty (w:World) (a:Option Addr) {c:Nat} (h:c<=maxLen):Sq f w (.slice a 0 c) []:=⟨a,c,rfl,Nat.zero_le _,h,.inl rfl⟩
theorem addr_add (b o j:Nat):(⟨b,o,none⟩:Addr).add j=⟨b,o+j,none⟩:=by
 unfold Addr.add;split
 ·rename_i h;subst h;rfl
 ·rfl
theorem qp {P:Program} {w:World} {ops:Array Oper} {rest:List Oper} {o:Oper} {a:Act} {Q:Exit->Act->World->Prop} (hL:Lays f sz) (hgd:o.guard=none) (s x:Operand) (t:TypeId)
  (ho:o.op = .call { callee:=.builtin .append,args:=#[s,x],argTypes:=#[t,t] }) {E:TypeId} {z:Value} {bytes:Nat} (ht:P.underlying t=some (.slice E)) (hi:(P.info? E).map (fun i=>(i.zero,i.size,i.bytes))=some (some z,sz,bytes)) (hzs:z.cells.size=sz)
  {B:Nat} (v:Value) (os:List α) (hs:a.eval s=v) (hown:w.ownsRow B E sz v os.length (os.flatMap f)) (xv:Value) (ps:List α) (hx:a.eval x=xv) (hp:Sq f w xv ps)
  (hl:os.length+ps.length<=1000000) (hb:bytes<=1000) (hbase:B<=w.heap.size)
  (h:∀ a' c' w',w'.ownsRow B E sz (.slice a' (os++ps).length c') (os++ps).length ((os++ps).flatMap f)->Fr v.ownBlock.toList w w'->wpList P ops Q rest (a.put o.dst (.slice a' (os++ps).length c')) w'):wpList P ops Q (o :: rest) a w:=by
 obtain ⟨ad,cap,rfl,hcap,hm,hc⟩:=hp
 obtain ⟨i,hi0,hz,hs0,hb0⟩:=info_parts hi
 have hbytes:(os.length+ps.length) * bytes<=140737488355328:=qh (Nat.mul_le_mul hl hb) (by decide)
 have go:∀ (ad:Addr),(∀ j u,(ps.flatMap f)[j]? = some u->w.cell? (ad.add j)=some u)->a.eval x = .slice (some ad) ps.length cap->wpList P ops Q (o :: rest) a w:=by
  intro ad hcell hx
  refine wpList_append_own_at w hgd s x t ho B E i _ sz bytes ht hi0 hz hs0 hb0 hzs hL.pos v os.length _ hs hown ad ps.length cap (ps.flatMap f) hx (hL.flat ps) hcell (hL.ones ps) (by unfold maxLen;omega) hbytes hbase fun v' w' h2 h3 _ _=>?_
  rw [<- List.flatMap_append,<- List.length_append] at h2
  obtain ⟨a',c',rfl,-,-⟩:=Z4 h2
  exact h a' c' w' h2 (q1e h3)
 have hnil:ps.length=0->wpList P ops Q (o :: rest) a w:=by
  intro h0
  obtain rfl:ps=[]:=List.eq_nil_of_length_eq_zero h0
  cases ad with
  | some ad=>exact go ad (fun j u hu=>by simp at hu) hx
  | none =>
   have hown':=hown
   obtain ⟨hxl,hv⟩:=hown
   have hle:∃ b0 c0,v = .slice b0 os.length c0/\os.length<=c0:=by
    rcases hv with ⟨rfl,e0⟩ | ⟨g,c0,cur,rfl,-,-,h1,-⟩
    ·have hx0:os.length=0:=by first | exact e0 | omega
     exact ⟨none,0,by rw [hx0],by omega⟩
    ·exact ⟨_,c0,rfl,by first | exact h1 | omega⟩
   obtain ⟨b0,c0,rfl,hle⟩:=hle
   refine wpList_plain hgd fun K hK=>?_
   have hr:=run_append_nothing (P:=P) w t t o.type E i ht hi0 b0 os.length c0 hle (.slice none 0 cap) (by rw [hs0];exact Src.ofNil w ht cap)
   unfold Oper.wp execOp
   have hx':a.eval x = .slice none 0 cap:=hx
   simp only [ho,resolve,invoke,builtin,Sem.run_bind,Sem.run_pure,Result.andThen_ok,List.map_toArray,List.map_cons,List.map_nil,hs,hx',hr]
   have h':=h b0 c0 w
   rw [List.append_nil] at h'
   exact hK _ _ (h' hown' (Fr.refl _ _))
 rcases hc with h0 | ⟨g,off,rfl,-,hcell⟩
 ·exact hnil h0
 ·exact go ⟨g,off,none⟩ (fun j u hu=>by rw [addr_add];exact hcell j u hu) hx
end
section
variable {α:Type} {f:α->List Value} {sz:Nat}
theorem kr {P:Program} {w:World} {ops:Array Oper} {rest:List Oper} {o:Oper} {a:Act} {Q:Exit->Act->World->Prop} (hL:Lays f sz) (hgd:o.guard=none) (s x:Operand) (t:TypeId)
  (ho:o.op = .call { callee:=.builtin .append,args:=#[s,x],argTypes:=#[t,t] }) {E:TypeId} {z:Value} {bytes:Nat} (ht:P.underlying t=some (.slice E)) (hi:(P.info? E).map (fun i=>(i.zero,i.size,i.bytes))=some (some z,sz,bytes)) (hzs:z.cells.size=sz)
  {B:Nat} (v:Value) (os:List α) (hs:a.eval s=v) (hown:w.ownsRow B E sz v os.length (os.flatMap f)) (xv:Value) (ps:List α) (hx:a.eval x=xv) (hp:Sq f w xv ps)
  (hl:os.length+ps.length<=1000000) (hb:bytes<=1000) (hbase:B<=w.heap.size)
  (h:∀ a' c' w',w'.ownsRow B E sz (.slice a' (os++ps).length c') (os++ps).length ((os++ps).flatMap f)->Fr v.ownBlock.toList w w'->(∀ g,g∈(Value.slice a' (os++ps).length c').ownBlock.toList->g∈v.ownBlock.toList\/g=w.heap.size)->wpList P ops Q rest (a.put o.dst (.slice a' (os++ps).length c')) w'):wpList P ops Q (o :: rest) a w:=by
 obtain ⟨ad,cap,rfl,hcap,hm,hc⟩:=hp
 obtain ⟨i,hi0,hz,hs0,hb0⟩:=info_parts hi
 have hbytes:(os.length+ps.length) * bytes<=140737488355328:=qh (Nat.mul_le_mul hl hb) (by decide)
 have go:∀ (ad:Addr),(∀ j u,(ps.flatMap f)[j]? = some u->w.cell? (ad.add j)=some u)->a.eval x = .slice (some ad) ps.length cap->wpList P ops Q (o :: rest) a w:=by
  intro ad hcell hx
  refine wpList_append_own_at w hgd s x t ho B E i _ sz bytes ht hi0 hz hs0 hb0 hzs hL.pos v os.length _ hs hown ad ps.length cap (ps.flatMap f) hx (hL.flat ps) hcell (hL.ones ps) (by unfold maxLen;omega) hbytes hbase fun v' w' h2 h3 _ h5=>?_
  rw [<- List.flatMap_append,<- List.length_append] at h2
  obtain ⟨a',c',rfl,-,-⟩:=Z4 h2
  exact h a' c' w' h2 (q1e h3) (fun g hg=>by
   rcases h5 with h5 | h5
   ·rw [h5] at hg;exact .inl hg
   ·rw [h5] at hg;simp at hg;exact .inr hg)
 have hnil:ps.length=0->wpList P ops Q (o :: rest) a w:=by
  intro h0
  obtain rfl:ps=[]:=List.eq_nil_of_length_eq_zero h0
  cases ad with
  | some ad=>exact go ad (fun j u hu=>by simp at hu) hx
  | none =>
   have hown':=hown
   obtain ⟨hxl,hv⟩:=hown
   have hle:∃ b0 c0,v = .slice b0 os.length c0/\os.length<=c0:=by
    rcases hv with ⟨rfl,e0⟩ | ⟨g,c0,cur,rfl,-,-,h1,-⟩
    ·have hx0:os.length=0:=by first | exact e0 | omega
     exact ⟨none,0,by rw [hx0],by omega⟩
    ·exact ⟨_,c0,rfl,by first | exact h1 | omega⟩
   obtain ⟨b0,c0,rfl,hle⟩:=hle
   refine wpList_plain hgd fun K hK=>?_
   have hr:=run_append_nothing (P:=P) w t t o.type E i ht hi0 b0 os.length c0 hle (.slice none 0 cap) (by rw [hs0];exact Src.ofNil w ht cap)
   unfold Oper.wp execOp
   have hx':a.eval x = .slice none 0 cap:=hx
   simp only [ho,resolve,invoke,builtin,Sem.run_bind,Sem.run_pure,Result.andThen_ok,List.map_toArray,List.map_cons,List.map_nil,hs,hx',hr]
   have h':=h b0 c0 w
   rw [List.append_nil] at h'
   exact hK _ _ (h' hown' (Fr.refl _ _) (fun g hg=>.inl hg))
 rcases hc with h0 | ⟨g,off,rfl,-,hcell⟩
 ·exact hnil h0
 ·exact go ⟨g,off,none⟩ (fun j u hu=>by rw [addr_add];exact hcell j u hu) hx
end
structure It where
 k:Int
 v:Int
 d:Int
deriving DecidableEq
def fT (x:It):List Value:=[.int .i64 x.k,.int .i64 x.v,.int .i64 x.d]
theorem zh:Lays fT 3:=⟨fun _=>rfl,fun x u hu=>by simp [fT] at hu;rcases hu with rfl | rfl | rfl <;> rfl,by decide⟩
theorem itI:(Tryz.prog.info? 99).map (fun i=>(i.zero,i.size,i.bytes))=some (some (.agg #[.int .i64 0,.int .i64 0,.int .i64 0]),3,24):=by kernel_rfl
def gtT (y x:It):Bool:=decide (y.k>x.k) || ((y.k == x.k) && decide (y.v>x.v))
def Ya (out:List It) (x:It):Nat->Nat
 | 0=>0
 | k+1=>if (out[k]?.any fun y=>gtT y x)=true then Ya out x k else k+1
def Ut (out:List It) (x:It):List It:=out.take (Ya out x out.length)++[x]++out.drop (Ya out x out.length)
def Z6 (l:List It):List It:=l.foldl Ut []
theorem R7 {out:List It} {x y:It} {j:Nat} (hy:out[j]? = some y):Ya out x (j+1)=if gtT y x=true then Ya out x j else j+1:=by simp only [Ya,hy,Option.any_some]
theorem q5k (out:List It) (x:It) (k:Nat):Ya out x k<=k:=by
 induction k with
 | zero=>exact Nat.le_refl _
 | succ k ih=>unfold Ya;split <;> omega
theorem q03 (out:List It) (x:It):(Ut out x).length=out.length+1:=by
 unfold Ut
 have:=q5k out x out.length
 simp;omega
theorem Xb (l:List It):(Z6 l).length=l.length:=by
 unfold Z6
 suffices h:∀ (l out:List It),(l.foldl Ut out).length=out.length+l.length by have:=h l [];simpa using this
 intro l
 induction l with
 | nil=>intro out;rfl
 | cons x l ih=>intro out;rw [List.foldl_cons,ih,q03,List.length_cons];omega
theorem xk {w:World} {a:Option Addr} {n cap i:Nat} {xs:List It} {x:It} (h:Sq fT w (.slice a n cap) xs) (hi:xs[i]? = some x) :
  ∃ g off,a=some ⟨g,off,none⟩/\w.cell? ⟨g,off+i * 3,none⟩=some (.int .i64 x.k)/\w.cell? ⟨g,off+i * 3+1,none⟩=some (.int .i64 x.v)/\w.cell? ⟨g,off+i * 3+2,none⟩=some (.int .i64 x.d):=by
 obtain ⟨-,g,off,rfl,hc⟩:=Sq.cell zh h hi
 exact ⟨g,off,rfl,hc 0 _ rfl,hc 1 _ rfl,hc 2 _ rfl⟩
def SrtAt (w:World) (l:List It) (u x:Value) (wr:World):Prop:=∃ i,i<=l.length/\x = .int .i64 (i:Nat)/\wr.ownsRow w.heap.size 99 3 u (Z6 (l.take i)).length ((Z6 (l.take i)).flatMap fT)/\Fr [] w wr
def PosAt (wr:World) (out:List It) (x:It) (u:Value) (w':World):Prop:=∃ k,k<=out.length/\u = .int .i64 (k:Nat)/\Fr [] wr w'/\Ya out x out.length=Ya out x k
theorem q7u (l:List It) (v:Value) (w:World) (hl:l.length<=1000) (h:Sq fT w v l) :
  Calls Tryz.prog 112 #[v] w fun e w'=>(∃ u,e = .returned u/\w'.ownsRow w.heap.size 99 3 u (Z6 l).length ((Z6 l).flatMap fT))/\Fr [] w w':=by
 obtain ⟨a,cap,rfl,hcap,hmax,-⟩:=id h
 go_enter Tryz.func112,Tryz.ntmps112
 go_wp2_with fail
 go_loopw [3,4] (SrtAt w l) (fun _ x _=>l.length - (intOf x).toNat)
 case atStart=>exact ⟨0,by omega,rfl,⟨rfl,.inl ⟨rfl,rfl⟩⟩,Fr.refl _ _⟩
 case round =>
  obtain ⟨i,hi,rfl,hr,F⟩:=hrel
  by_cases hlt:i<l.length
  ·obtain ⟨x,hx⟩:∃ x,l[i]? = some x:=⟨l[i],List.getElem?_eq_getElem hlt⟩
   have hso:=Xb (l.take i)
   have hnx:Z6 (l.take (i+1))=Ut (Z6 (l.take i)) x:=by
    unfold Z6
    rw [List.take_add_one,hx,Option.toList_some,List.foldl_append];rfl
   generalize Z6 (l.take i)=out at *
   have hol:out.length<=1000:=by rw [hso,List.length_take];omega
   obtain ⟨ao,co,rfl,hco,hcm,-⟩:=id (Sq.own (f:=fT) hr)
   have HO:=Sq.own (f:=fT) hr
   have HN:=q9 (qc hnx hol)
   clear hnx hso
   go_wp2_with fail
   go_loopw [5] (PosAt wr out x) (fun u _=>(intOf u).toNat)
   case atStart=>exact ⟨out.length,Nat.le_refl _,rfl,Fr.refl _ _,rfl⟩
   case round =>
    obtain ⟨k,hk,rfl,F2,hp⟩:=hrel
    rcases k with _ | j
    ·obtain ⟨gl,ol,rfl,-,-,-⟩:=xk (h.up (F.trans F2)) hx
     by_cases h00:out.length=0
     ·obtain rfl:out=[]:=List.eq_nil_of_length_eq_zero h00
      go_wp2_with fail
      refine wiq ?_
      repeat (go_big_quiet_step (fail))
      refine wpQuiet_nil ?_
      intro w5 F5
      go_wp2_with fail
      have FW:=(F.trans F2).trans F5
      have HO5:=HO.up (F2.trans F5)
      have HL5:=q9 (h.up FW)
      refine qy (by kernel_rfl) [] (fun w2 F2'=>?_)
      refine epq [true,true,true,false,true,true,true,true,false,false,true,true,true,false,false] 5 F2' ?_
      apply qg
      refine ⟨fun wf Ff=>?_,?_⟩
      ·obtain ⟨gl',ol',hgl,x0,x1,x2⟩:=xk (HL5.out.up Ff) hx
       simp only [Option.some.injEq,Addr.mk.injEq] at hgl
       obtain ⟨rfl,rfl,-⟩:=hgl
       have j0:=qb x0
       have j1:=qb x1
       have j2:=qb x2
       clear x0 x1 x2
       simp only [sel]
       repeat (go_big_quiet_step (fail))
       exact wpQuiet_nil rfl
      have HS1:=q9 (Sq.empty (f:=fT) w5 ao hcm)
      have HS2:=q9 (Sq.empty (f:=fT) w5 ao hcm)
      have HT:=q9 (show ([]:List It).length<=1000/\([]:List It).length<=1000/\Ut [] x=[]++[x]++[] from ⟨by simp,by simp,rfl⟩)
      refine jb [3,8] (by kernel_rfl) (by simp) (fun w10 F10 m hm o ho=>?_)
      have G:=F2'.trans F10
      clear F10 F2'
      simp only [List.mem_cons,List.not_mem_nil,or_false] at hm
      rcases hm with rfl | rfl
      focus
       obtain rfl:=qi ho
       have S1':=HS1.out.up G
       go_wp2_with (at_builtin;refine qp zh rfl _ _ 91 rfl Tryz.underlying91 itI rfl (B:=w5.heap.size) (.slice none 0 0) [] rfl ⟨rfl,.inl ⟨rfl,rfl⟩⟩ _ ([]:List It) rfl S1' (by have:=HT.out;simp <;> omega) (by decide) G.size ?_;intro a21 c21 w21 r21 f21)
       rw [List.nil_append] at r21
       replace G:=G.trans f21
       clear f21 S1'
       refine ql ⟨G,?_⟩
       refine eoq 8 (fun w11 F11=>?_)
       have r11:=qm r21 F11
       replace G:=G.trans F11
       clear r21 F11
       go_wp2_with fail
       have F12:=(Fr.refl [] w11).alloc (.cells #[.int .i64 x.k,.int .i64 x.v,.int .i64 x.d] 99)
       have B21:=Go.heap_alloc_new w11 (.cells #[.int .i64 x.k,.int .i64 x.v,.int .i64 x.d] 99)
       have r21:=qm r11 F12
       replace G:=G.trans F12
       clear r11 F12 ho
      rotate_left
      focus
       obtain rfl:=qi ho
       go_wp2_with fail
       have F12:=(Fr.refl [] w10).alloc (.cells #[.int .i64 x.k,.int .i64 x.v,.int .i64 x.d] 99)
       have B12:=Go.heap_alloc_new w10 (.cells #[.int .i64 x.k,.int .i64 x.v,.int .i64 x.d] 99)
       replace G:=G.trans F12
       clear F12 ho
       refine ql ⟨G,?_⟩
       refine eoq 3 (fun w11 F11=>?_)
       have B13:=F11.heap B12 (by simp)
       replace G:=G.trans F11
       clear B12 F11
       have S1':=HS1.out.up G
       go_wp2_with (at_builtin;refine qp zh rfl _ _ 91 rfl Tryz.underlying91 itI rfl (B:=w5.heap.size) (.slice none 0 0) [] rfl ⟨rfl,.inl ⟨rfl,rfl⟩⟩ _ ([]:List It) rfl S1' (by have:=HT.out;simp <;> omega) (by decide) G.size ?_;intro a21 c21 w21 r21 f21)
       rw [List.nil_append] at r21
       have B21:=Fr.heap f21 B13 (by simp [Value.ownBlock])
       replace G:=G.trans f21
       clear f21 B13 S1'
      rotate_left
      all_goals
       refine ql ⟨G,?_⟩
       refine eoq 9 (fun w13 F13=>?_)
       have r22:=qm r21 F13
       have B22:=F13.heap B21 (by simp)
       replace G:=G.trans F13
       clear r21 B21 F13
       go_wp2_with (at_builtin;refine qp zh rfl _ _ 91 rfl Tryz.underlying91 itI rfl (B:=w5.heap.size) _ ([]:List It) rfl r22 _ [x] rfl (Sq.block B22 rfl rfl (Nat.le_refl _) (by simp [maxLen])) (by have:=HT.out;simp <;> omega) (by decide) G.size ?_;intro a23 c23 w23 r23 f23;generalize hT3:([]:List It)++[x]=T3 at r23 ⊢)
       replace G:=G.own f23 (z8 r22)
       clear f23 r22 B22
       refine ql ⟨G,?_⟩
       refine eoq 13 (fun w14 F14=>?_)
       have r24:=qm r23 F14
       replace G:=G.trans F14
       clear r23 F14
       have S2':=HS2.out.up G
       go_wp2_with (at_builtin;refine qp zh rfl _ _ 91 rfl Tryz.underlying91 itI rfl (B:=w5.heap.size) _ T3 rfl r24 _ ([]:List It) rfl S2' (by have:=HT.out;rw [<- hT3];simp <;> omega) (by decide) G.size ?_;intro a25 c25 w25 r25 f25;generalize hT4:T3++([]:List It)=T4 at r25 ⊢)
       replace G:=G.own f25 (z8 r24)
       clear f25 r24 S2'
       refine ql ⟨G,?_⟩
       refine eoq 14 (fun w15 F15=>?_)
       have r26:=qm r25 F15
       replace G:=G.trans F15
       clear r25 F15
       go_wp2
       refine ql ⟨G,?_⟩
       refine zr (by kernel_rfl) (fun w16 F16=>?_)
       have r27:=qm r26 F16
       replace G:=G.trans F16
       clear r26 F16
       have e26:Z6 (l.take (i+1))=T4:=by rw [HN.out.1,HT.out.2.2,hT3,hT4]
       rw [<- e26] at r27 ⊢
       have r28:=Z5 r27 FW.size
       go_wp2
       exact ⟨⟨i+1,by omega,by go_num,r28,FW.trans G⟩,by simp [intOf];omega⟩
     obtain ⟨y,hy⟩:∃ y,out[0]? = some y:=⟨out[0],List.getElem?_eq_getElem (by omega)⟩
     obtain ⟨go,oo,rfl,-,-,-⟩:=xk HO hy
     go_wp2_with fail
     refine wiq ?_
     repeat (go_big_quiet_step (fail))
     refine wpQuiet_nil ?_
     intro w5 F5
     go_wp2_with fail
     have FW:=(F.trans F2).trans F5
     have HO5:=HO.up (F2.trans F5)
     have HL5:=q9 (h.up FW)
     refine qy (by kernel_rfl) [] (fun w2 F2'=>?_)
     refine epq [true,true,true,false,true,true,true,true,false,false,true,true,true,false,false] 5 F2' ?_
     apply qg
     refine ⟨fun wf Ff=>?_,?_⟩
     ·obtain ⟨gl',ol',hgl,x0,x1,x2⟩:=xk (HL5.out.up Ff) hx
      simp only [Option.some.injEq,Addr.mk.injEq] at hgl
      obtain ⟨rfl,rfl,-⟩:=hgl
      have j0:=qb x0
      have j1:=qb x1
      have j2:=qb x2
      clear x0 x1 x2
      simp only [sel]
      repeat (go_big_quiet_step (fail))
      exact wpQuiet_nil rfl
     have HS1:=q9 (Sq.empty (f:=fT) w5 (some ⟨go,oo,none⟩) hcm)
     have HS2:=q9 (HO5)
     have HT:=q9 (show ([]:List It).length<=1000/\out.length<=1000/\Ut out x=[]++[x]++out from ⟨by simp,HN.out.2,by unfold Ut;rw [hp];rfl⟩)
     refine jb [3,8] (by kernel_rfl) (by simp) (fun w10 F10 m hm o ho=>?_)
     have G:=F2'.trans F10
     clear F10 F2'
     simp only [List.mem_cons,List.not_mem_nil,or_false] at hm
     rcases hm with rfl | rfl
     focus
      obtain rfl:=qi ho
      have S1':=HS1.out.up G
      go_wp2_with (at_builtin;refine qp zh rfl _ _ 91 rfl Tryz.underlying91 itI rfl (B:=w5.heap.size) (.slice none 0 0) [] rfl ⟨rfl,.inl ⟨rfl,rfl⟩⟩ _ ([]:List It) rfl S1' (by have:=HT.out;simp <;> omega) (by decide) G.size ?_;intro a21 c21 w21 r21 f21)
      rw [List.nil_append] at r21
      replace G:=G.trans f21
      clear f21 S1'
      refine ql ⟨G,?_⟩
      refine eoq 8 (fun w11 F11=>?_)
      have r11:=qm r21 F11
      replace G:=G.trans F11
      clear r21 F11
      go_wp2_with fail
      have F12:=(Fr.refl [] w11).alloc (.cells #[.int .i64 x.k,.int .i64 x.v,.int .i64 x.d] 99)
      have B21:=Go.heap_alloc_new w11 (.cells #[.int .i64 x.k,.int .i64 x.v,.int .i64 x.d] 99)
      have r21:=qm r11 F12
      replace G:=G.trans F12
      clear r11 F12 ho
     rotate_left
     focus
      obtain rfl:=qi ho
      go_wp2_with fail
      have F12:=(Fr.refl [] w10).alloc (.cells #[.int .i64 x.k,.int .i64 x.v,.int .i64 x.d] 99)
      have B12:=Go.heap_alloc_new w10 (.cells #[.int .i64 x.k,.int .i64 x.v,.int .i64 x.d] 99)
      replace G:=G.trans F12
      clear F12 ho
      refine ql ⟨G,?_⟩
      refine eoq 3 (fun w11 F11=>?_)
      have B13:=F11.heap B12 (by simp)
      replace G:=G.trans F11
      clear B12 F11
      have S1':=HS1.out.up G
      go_wp2_with (at_builtin;refine qp zh rfl _ _ 91 rfl Tryz.underlying91 itI rfl (B:=w5.heap.size) (.slice none 0 0) [] rfl ⟨rfl,.inl ⟨rfl,rfl⟩⟩ _ ([]:List It) rfl S1' (by have:=HT.out;simp <;> omega) (by decide) G.size ?_;intro a21 c21 w21 r21 f21)
      rw [List.nil_append] at r21
      have B21:=Fr.heap f21 B13 (by simp [Value.ownBlock])
      replace G:=G.trans f21
      clear f21 B13 S1'
     rotate_left
     all_goals
      refine ql ⟨G,?_⟩
      refine eoq 9 (fun w13 F13=>?_)
      have r22:=qm r21 F13
      have B22:=F13.heap B21 (by simp)
      replace G:=G.trans F13
      clear r21 B21 F13
      go_wp2_with (at_builtin;refine qp zh rfl _ _ 91 rfl Tryz.underlying91 itI rfl (B:=w5.heap.size) _ ([]:List It) rfl r22 _ [x] rfl (Sq.block B22 rfl rfl (Nat.le_refl _) (by simp [maxLen])) (by have:=HT.out;simp <;> omega) (by decide) G.size ?_;intro a23 c23 w23 r23 f23;generalize hT3:([]:List It)++[x]=T3 at r23 ⊢)
      replace G:=G.own f23 (z8 r22)
      clear f23 r22 B22
      refine ql ⟨G,?_⟩
      refine eoq 13 (fun w14 F14=>?_)
      have r24:=qm r23 F14
      replace G:=G.trans F14
      clear r23 F14
      have S2':=HS2.out.up G
      go_wp2_with (at_builtin;refine qp zh rfl _ _ 91 rfl Tryz.underlying91 itI rfl (B:=w5.heap.size) _ T3 rfl r24 _ out rfl S2' (by have:=HT.out;rw [<- hT3];simp <;> omega) (by decide) G.size ?_;intro a25 c25 w25 r25 f25;generalize hT4:T3++out=T4 at r25 ⊢)
      replace G:=G.own f25 (z8 r24)
      clear f25 r24 S2'
      refine ql ⟨G,?_⟩
      refine eoq 14 (fun w15 F15=>?_)
      have r26:=qm r25 F15
      replace G:=G.trans F15
      clear r25 F15
      go_wp2
      refine ql ⟨G,?_⟩
      refine zr (by kernel_rfl) (fun w16 F16=>?_)
      have r27:=qm r26 F16
      replace G:=G.trans F16
      clear r26 F16
      have e26:Z6 (l.take (i+1))=T4:=by rw [HN.out.1,HT.out.2.2,hT3,hT4]
      rw [<- e26] at r27 ⊢
      have r28:=Z5 r27 FW.size
      go_wp2
      exact ⟨⟨i+1,by omega,by go_num,r28,FW.trans G⟩,by simp [intOf];omega⟩
    ·obtain ⟨y,hy⟩:∃ y,out[j]? = some y:=⟨out[j],List.getElem?_eq_getElem (by omega)⟩
     have HO2:=HO.up F2
     have HL2:=h.up (F.trans F2)
     obtain ⟨go,oo,rfl,y0,y1,y2⟩:=xk HO2 hy
     obtain ⟨gl,ol,rfl,x0,x1,x2⟩:=xk HL2 hx
     have hj1:((j+1:Nat):Int) - 1=(j:Nat):=by omega
     have hps:=R7 (x:=x) hy
     have n0:=qb y0
     have n1:=qb y1
     have m0:=qb x0
     have m1:=qb x1
     clear HO2 HL2
     by_cases e1:y.k>x.k
     ·have g1:decide (y.k>x.k)=true:=by simpa using e1
      have hg:gtT y x=true:=by unfold gtT;rw [g1];rfl
      have HP:=q9 (show Ya out x (j+1)=Ya out x j by rw [hps,qf hg])
      clear hps hg
      go_wp2_with fail
      refine wiq ?_
      repeat (go_big_quiet_step (fail))
      refine wpQuiet_nil ?_
      intro w5 F5
      go_wp2_with fail
      exact ⟨⟨j,by omega,rfl,F2.trans F5,hp.trans HP.out⟩,by simp [intOf]⟩
     have g1:decide (y.k>x.k)=false:=by simpa using e1
     by_cases e2:y.k=x.k
     focus
      have g2:(y.k == x.k)=true:=by simpa using e2
      by_cases e3:y.v>x.v
      ·have g3:decide (y.v>x.v)=true:=by simpa using e3
       have hg:gtT y x=true:=by unfold gtT;rw [g1,g2,g3];rfl
       have HP:=q9 (show Ya out x (j+1)=Ya out x j by rw [hps,qf hg])
       clear hps hg e2
       go_wp2_with fail
       refine wiq ?_
       repeat (go_big_quiet_step (fail))
       refine wpQuiet_nil ?_
       intro w5 F5
       go_wp2_with fail
       exact ⟨⟨j,by omega,rfl,F2.trans F5,hp.trans HP.out⟩,by simp [intOf]⟩
      have g3:decide (y.v>x.v)=false:=by simpa using e3
      have hg:gtT y x=false:=by unfold gtT;rw [g1,g2,g3];rfl
      have HP:=q9 (show Ya out x (j+1)=j+1 by rw [hps,qd (by simp [hg])])
      clear hps hg e2
     rotate_left
     focus
      have g2:(y.k == x.k)=false:=by simpa using e2
      have hg:gtT y x=false:=by unfold gtT;rw [g1,g2];rfl
      have HP:=q9 (show Ya out x (j+1)=j+1 by rw [hps,qd (by simp [hg])])
      clear hps hg
     rotate_left
     all_goals
      go_wp2_with fail
      refine wiq ?_
      repeat (go_big_quiet_step (fail))
      refine wpQuiet_nil ?_
      intro w5 F5
      clear n0 n1 m0 m1 y0 y1 y2 x0 x1 x2
      by_cases hjl:j+1<out.length
      ·go_wp2_with fail
       have FW:=(F.trans F2).trans F5
       have HO5:=HO.up (F2.trans F5)
       have HL5:=q9 (h.up FW)
       refine qy (by kernel_rfl) [] (fun w2 F2'=>?_)
       refine epq [true,true,true,false,true,true,true,true,false,false,true,true,true,false,false] 5 F2' ?_
       apply qg
       refine ⟨fun wf Ff=>?_,?_⟩
       ·obtain ⟨gl',ol',hgl,x0,x1,x2⟩:=xk (HL5.out.up Ff) hx
        simp only [Option.some.injEq,Addr.mk.injEq] at hgl
        obtain ⟨rfl,rfl,-⟩:=hgl
        have j0:=qb x0
        have j1:=qb x1
        have j2:=qb x2
        clear x0 x1 x2
        simp only [sel]
        repeat (go_big_quiet_step (fail))
        exact wpQuiet_nil rfl
       have HS1:=q9 (Sq.take zh HO5 (j+1) (by omega))
       have HS2:=q9 (Sq.drop zh HO5 (j+1) (by omega))
       have HT:=q9 (show (out.take (j+1)).length<=1000/\(out.drop (j+1)).length<=1000/\Ut out x=out.take (j+1)++[x]++out.drop (j+1) from ⟨by have:=HN.out;simp;omega,by have:=HN.out;simp;omega,by unfold Ut;rw [hp,HP.out]⟩)
       generalize out.take (j+1)=T1 at HS1 HT
       generalize out.drop (j+1)=T2 at HS2 HT
       refine jb [3,8] (by kernel_rfl) (by simp) (fun w10 F10 m hm o ho=>?_)
       have G:=F2'.trans F10
       clear F10 F2'
       simp only [List.mem_cons,List.not_mem_nil,or_false] at hm
       rcases hm with rfl | rfl
       focus
        obtain rfl:=qi ho
        have S1':=HS1.out.up G
        go_wp2_with (at_builtin;refine qp zh rfl _ _ 91 rfl Tryz.underlying91 itI rfl (B:=w5.heap.size) (.slice none 0 0) [] rfl ⟨rfl,.inl ⟨rfl,rfl⟩⟩ _ T1 rfl S1' (by have:=HT.out;simp <;> omega) (by decide) G.size ?_;intro a21 c21 w21 r21 f21)
        rw [List.nil_append] at r21
        replace G:=G.trans f21
        clear f21 S1'
        refine ql ⟨G,?_⟩
        refine eoq 8 (fun w11 F11=>?_)
        have r11:=qm r21 F11
        replace G:=G.trans F11
        clear r21 F11
        go_wp2_with fail
        have F12:=(Fr.refl [] w11).alloc (.cells #[.int .i64 x.k,.int .i64 x.v,.int .i64 x.d] 99)
        have B21:=Go.heap_alloc_new w11 (.cells #[.int .i64 x.k,.int .i64 x.v,.int .i64 x.d] 99)
        have r21:=qm r11 F12
        replace G:=G.trans F12
        clear r11 F12 ho
       rotate_left
       focus
        obtain rfl:=qi ho
        go_wp2_with fail
        have F12:=(Fr.refl [] w10).alloc (.cells #[.int .i64 x.k,.int .i64 x.v,.int .i64 x.d] 99)
        have B12:=Go.heap_alloc_new w10 (.cells #[.int .i64 x.k,.int .i64 x.v,.int .i64 x.d] 99)
        replace G:=G.trans F12
        clear F12 ho
        refine ql ⟨G,?_⟩
        refine eoq 3 (fun w11 F11=>?_)
        have B13:=F11.heap B12 (by simp)
        replace G:=G.trans F11
        clear B12 F11
        have S1':=HS1.out.up G
        go_wp2_with (at_builtin;refine qp zh rfl _ _ 91 rfl Tryz.underlying91 itI rfl (B:=w5.heap.size) (.slice none 0 0) [] rfl ⟨rfl,.inl ⟨rfl,rfl⟩⟩ _ T1 rfl S1' (by have:=HT.out;simp <;> omega) (by decide) G.size ?_;intro a21 c21 w21 r21 f21)
        rw [List.nil_append] at r21
        have B21:=Fr.heap f21 B13 (by simp [Value.ownBlock])
        replace G:=G.trans f21
        clear f21 B13 S1'
       rotate_left
       all_goals
        refine ql ⟨G,?_⟩
        refine eoq 9 (fun w13 F13=>?_)
        have r22:=qm r21 F13
        have B22:=F13.heap B21 (by simp)
        replace G:=G.trans F13
        clear r21 B21 F13
        go_wp2_with (at_builtin;refine qp zh rfl _ _ 91 rfl Tryz.underlying91 itI rfl (B:=w5.heap.size) _ T1 rfl r22 _ [x] rfl (Sq.block B22 rfl rfl (Nat.le_refl _) (by simp [maxLen])) (by have:=HT.out;simp <;> omega) (by decide) G.size ?_;intro a23 c23 w23 r23 f23;generalize hT3:T1++[x]=T3 at r23 ⊢)
        replace G:=G.own f23 (z8 r22)
        clear f23 r22 B22
        refine ql ⟨G,?_⟩
        refine eoq 13 (fun w14 F14=>?_)
        have r24:=qm r23 F14
        replace G:=G.trans F14
        clear r23 F14
        have S2':=HS2.out.up G
        go_wp2_with (at_builtin;refine qp zh rfl _ _ 91 rfl Tryz.underlying91 itI rfl (B:=w5.heap.size) _ T3 rfl r24 _ T2 rfl S2' (by have:=HT.out;rw [<- hT3];simp <;> omega) (by decide) G.size ?_;intro a25 c25 w25 r25 f25;generalize hT4:T3++T2=T4 at r25 ⊢)
        replace G:=G.own f25 (z8 r24)
        clear f25 r24 S2'
        refine ql ⟨G,?_⟩
        refine eoq 14 (fun w15 F15=>?_)
        have r26:=qm r25 F15
        replace G:=G.trans F15
        clear r25 F15
        go_wp2
        refine ql ⟨G,?_⟩
        refine zr (by kernel_rfl) (fun w16 F16=>?_)
        have r27:=qm r26 F16
        replace G:=G.trans F16
        clear r26 F16
        have e26:Z6 (l.take (i+1))=T4:=by rw [HN.out.1,HT.out.2.2,hT3,hT4]
        rw [<- e26] at r27 ⊢
        have r28:=Z5 r27 FW.size
        go_wp2
        exact ⟨⟨i+1,by omega,by go_num,r28,FW.trans G⟩,by simp [intOf];omega⟩
      have hje:j+1=out.length:=by omega
      go_wp2_with fail
      have FW:=(F.trans F2).trans F5
      have HO5:=HO.up (F2.trans F5)
      have HL5:=q9 (h.up FW)
      refine qy (by kernel_rfl) [] (fun w2 F2'=>?_)
      refine epq [true,true,true,false,true,true,true,true,false,false,true,true,true,false,false] 5 F2' ?_
      apply qg
      refine ⟨fun wf Ff=>?_,?_⟩
      ·obtain ⟨gl',ol',hgl,x0,x1,x2⟩:=xk (HL5.out.up Ff) hx
       simp only [Option.some.injEq,Addr.mk.injEq] at hgl
       obtain ⟨rfl,rfl,-⟩:=hgl
       have j0:=qb x0
       have j1:=qb x1
       have j2:=qb x2
       clear x0 x1 x2
       simp only [sel]
       repeat (go_big_quiet_step (fail))
       exact wpQuiet_nil rfl
      have hc2:co - out.length<=maxLen:=by omega
      generalize co - out.length=c2 at hc2 ⊢
      generalize (if co=out.length then some (⟨go,oo,none⟩:Addr) else some (⟨go,oo+out.length * 3,none⟩:Addr))=a2
      have HS1:=q9 (HO5)
      have HS2:=q9 (Sq.empty (f:=fT) w5 a2 hc2)
      have hend:Ya out x out.length=out.length:=by have:=HP.out;rw [hje] at this;exact this
      obtain ⟨T1,hT1⟩:∃ T1,T1=out:=⟨out,rfl⟩
      have HT:=q9 (show T1.length<=1000/\([]:List It).length<=1000/\Ut out x=T1++[x]++[] from ⟨by rw [hT1];have:=HN.out;omega,by simp,by rw [hT1];unfold Ut;rw [hend,List.take_length,List.drop_length]⟩)
      have HS1:=q9 (show Sq fT w5 (.slice (some ⟨go,oo,none⟩) T1.length co) T1 by rw [hT1];exact HO5)
      rw [<- hT1]
      have HT1:=q9 hT1
      clear hT1 hend
      refine jb [3,8] (by kernel_rfl) (by simp) (fun w10 F10 m hm o ho=>?_)
      have G:=F2'.trans F10
      clear F10 F2'
      simp only [List.mem_cons,List.not_mem_nil,or_false] at hm
      rcases hm with rfl | rfl
      focus
       obtain rfl:=qi ho
       have S1':=HS1.out.up G
       go_wp2_with (at_builtin;refine qp zh rfl _ _ 91 rfl Tryz.underlying91 itI rfl (B:=w5.heap.size) (.slice none 0 0) [] rfl ⟨rfl,.inl ⟨rfl,rfl⟩⟩ _ T1 rfl S1' (by have:=HT.out;simp <;> omega) (by decide) G.size ?_;intro a21 c21 w21 r21 f21)
       rw [List.nil_append] at r21
       replace G:=G.trans f21
       clear f21 S1'
       refine ql ⟨G,?_⟩
       refine eoq 8 (fun w11 F11=>?_)
       have r11:=qm r21 F11
       replace G:=G.trans F11
       clear r21 F11
       go_wp2_with fail
       have F12:=(Fr.refl [] w11).alloc (.cells #[.int .i64 x.k,.int .i64 x.v,.int .i64 x.d] 99)
       have B21:=Go.heap_alloc_new w11 (.cells #[.int .i64 x.k,.int .i64 x.v,.int .i64 x.d] 99)
       have r21:=qm r11 F12
       replace G:=G.trans F12
       clear r11 F12 ho
      rotate_left
      focus
       obtain rfl:=qi ho
       go_wp2_with fail
       have F12:=(Fr.refl [] w10).alloc (.cells #[.int .i64 x.k,.int .i64 x.v,.int .i64 x.d] 99)
       have B12:=Go.heap_alloc_new w10 (.cells #[.int .i64 x.k,.int .i64 x.v,.int .i64 x.d] 99)
       replace G:=G.trans F12
       clear F12 ho
       refine ql ⟨G,?_⟩
       refine eoq 3 (fun w11 F11=>?_)
       have B13:=F11.heap B12 (by simp)
       replace G:=G.trans F11
       clear B12 F11
       have S1':=HS1.out.up G
       go_wp2_with (at_builtin;refine qp zh rfl _ _ 91 rfl Tryz.underlying91 itI rfl (B:=w5.heap.size) (.slice none 0 0) [] rfl ⟨rfl,.inl ⟨rfl,rfl⟩⟩ _ T1 rfl S1' (by have:=HT.out;simp <;> omega) (by decide) G.size ?_;intro a21 c21 w21 r21 f21)
       rw [List.nil_append] at r21
       have B21:=Fr.heap f21 B13 (by simp [Value.ownBlock])
       replace G:=G.trans f21
       clear f21 B13 S1'
      rotate_left
      all_goals
       refine ql ⟨G,?_⟩
       refine eoq 9 (fun w13 F13=>?_)
       have r22:=qm r21 F13
       have B22:=F13.heap B21 (by simp)
       replace G:=G.trans F13
       clear r21 B21 F13
       go_wp2_with (at_builtin;refine qp zh rfl _ _ 91 rfl Tryz.underlying91 itI rfl (B:=w5.heap.size) _ T1 rfl r22 _ [x] rfl (Sq.block B22 rfl rfl (Nat.le_refl _) (by simp [maxLen])) (by have:=HT.out;simp <;> omega) (by decide) G.size ?_;intro a23 c23 w23 r23 f23;generalize hT3:T1++[x]=T3 at r23 ⊢)
       replace G:=G.own f23 (z8 r22)
       clear f23 r22 B22
       refine ql ⟨G,?_⟩
       refine eoq 13 (fun w14 F14=>?_)
       have r24:=qm r23 F14
       replace G:=G.trans F14
       clear r23 F14
       have S2':=HS2.out.up G
       go_wp2_with (at_builtin;refine qp zh rfl _ _ 91 rfl Tryz.underlying91 itI rfl (B:=w5.heap.size) _ T3 rfl r24 _ ([]:List It) rfl S2' (by have:=HT.out;rw [<- hT3];simp <;> omega) (by decide) G.size ?_;intro a25 c25 w25 r25 f25;generalize hT4:T3++([]:List It)=T4 at r25 ⊢)
       replace G:=G.own f25 (z8 r24)
       clear f25 r24 S2'
       refine ql ⟨G,?_⟩
       refine eoq 14 (fun w15 F15=>?_)
       have r26:=qm r25 F15
       replace G:=G.trans F15
       clear r25 F15
       go_wp2
       refine ql ⟨G,?_⟩
       refine zr (by kernel_rfl) (fun w16 F16=>?_)
       have r27:=qm r26 F16
       replace G:=G.trans F16
       clear r26 F16
       have e26:Z6 (l.take (i+1))=T4:=by rw [HN.out.1,HT.out.2.2,hT3,hT4]
       rw [<- e26] at r27 ⊢
       have r28:=Z5 r27 FW.size
       go_wp2
       exact ⟨⟨i+1,by omega,by go_num,r28,FW.trans G⟩,by simp [intOf];omega⟩
  ·obtain rfl:i=l.length:=by omega
   rw [List.take_length] at hr
   have HR:=q9 hr
   obtain ⟨ao,co,rfl,-,-⟩:=Z4 hr
   go_wp2_with fail
   go_ret
   exact ⟨⟨_,rfl,HR.out⟩,F⟩
def fI (x:Int):List Value:=[.int .i64 x]
theorem yc:Lays fI 1:=⟨fun _=>rfl,fun x u hu=>by rw [List.mem_singleton.1 hu];rfl,by decide⟩
theorem q4t:(Tryz.prog.info? 3).map (fun i=>(i.zero,i.size,i.bytes))=some (some (.int .i64 0),1,8):=by kernel_rfl
theorem Zn {w:World} {a:Option Addr} {n cap i:Nat} {xs:List Int} {x:Int} (h:Sq fI w (.slice a n cap) xs) (hi:xs[i]? = some x) :
  ∃ g off,a=some ⟨g,off,none⟩/\w.cell? ⟨g,off+i,none⟩=some (.int .i64 x):=by
 obtain ⟨-,g,off,rfl,hc⟩:=Sq.cell yc h hi
 exact ⟨g,off,rfl,by simpa using hc 0 _ rfl⟩
def Xr (x:It) (nx:Option It) (vs:List Int):Bool :=
 nx.all (fun y=>y.k != x.k) || vs.any fun v=>decide (x.v<=v) && (nx.all (fun y=>y.k != x.k) || nx.any fun y=>decide (v<y.v))
def X6 (vs:List Int):List It->List It
 | []=>[]
 | x :: r=>if Xr x r.head? vs=true then x :: X6 vs r else X6 vs r
def Yz (l:List It) (vs:List Int):List It:=X6 vs (Z6 l)
end Go.Proofs.YtppajakfaomkaaaGreatDoor.Mx
namespace Go.Proofs.YtppajakfaomkaaaGreatDoor.Mx
def Qb (half:Int):Nat->List It->List (List It)->List It->List (List It)
 | 0,_,out,cur=>out++[cur]
 | n+1,l,out,cur =>
  match l with
  | []=>out++[cur]
  | x :: r =>
   let run:=x :: r.takeWhile (fun y=>y.k == x.k)
   if cur≠[]/\half<(cur.length:Int)+run.length then Qb half n (r.dropWhile (fun y=>y.k == x.k)) (out++[cur]) run
   else Qb half n (r.dropWhile (fun y=>y.k == x.k)) out (cur++run)
def Xq (cells:Int):Int:=max 2 (min cells 16) / 2
def xz (l:List It) (cells:Int):List (List It):=Qb (Xq cells) l.length l [] []
def xo (least:Int) (gs:List (List It)):List Int :=
 match gs with
 | []=>[]
 | _ :: r=>least :: r.map fun g=>(g.head?.map It.k).getD 0
end Go.Proofs.YtppajakfaomkaaaGreatDoor.Mx
namespace Go.Proofs.YtppajakfaomkaaaGreatDoor.Mx
open Go.RowKit Ar
structure Nk where
 at_:Int
 mn:Int
 ct:Int
 nx:Int
 its:List It
def jq (c:Cf) (at_ after:Int):List (List It)->List Int->List Nk
 | [],_=>[]
 | g :: r,ms=>⟨at_,ms.headD 0,g.length,jv (if r=[] then after else wrap64 (at_+za c)) false,g⟩ :: jq c (wrap64 (at_+za c)) after r ms.tail
def ym (c:Cf) (at_ after least:Int) (gs:List (List It)):List Nk :=
 if gs.all (fun g=>decide ((g.length:Int)<=c.c))=true then jq c at_ after gs (xo least gs) else []
def yl (at_:Int):Nat->List It->List (Int×Int)
 | _,[]=>[]
 | k,y :: r=>(Qg at_ k,vq y.v) :: (wrap64 (Qg at_ k+1),y.k) :: (wrap64 (Qg at_ k+2),y.d) :: yl at_ (k+1) r
def Z9 (x:Nk):List (Int×Int):=(wrap64 x.at_,x.mn) :: (wrap64 (x.at_+1),x.ct) :: (wrap64 (x.at_+2),x.nx) :: yl x.at_ 0 x.its
def yz (l:List Nk):List (Int×Int):=l.flatMap Z9
theorem Xy (at_:Int):∀ (l:List It) (k:Nat),(yl at_ k l).length=3 * l.length
 | [],_=>rfl
 | y :: r,k=>by unfold yl;simp only [List.length_cons,Xy at_ r];omega
theorem Yx (at_:Int) (y:It):∀ (l:List It) (k:Nat),yl at_ k (l++[y])=yl at_ k l++[(Qg at_ ((k+l.length:Nat):Int),vq y.v),(wrap64 (Qg at_ ((k+l.length:Nat):Int)+1),y.k),(wrap64 (Qg at_ ((k+l.length:Nat):Int)+2),y.d)]
 | [],k=>rfl
 | z :: r,k=>by
  rw [List.cons_append]
  unfold yl
  rw [Yx at_ y r (k+1),List.length_cons,show k+1+r.length=k+(r.length+1) by omega];rfl
theorem q0a {ns:List Nk} {i:Nat} {n:Nk} (h:ns[i]? = some n):yz (ns.take (i+1))=yz (ns.take i)++Z9 n:=by
 unfold yz
 rw [List.take_add_one,h,Option.toList_some,List.flatMap_append];simp
theorem Y4 (v:Int):3<=vq v:=by unfold vq hd;omega
theorem yn (c:Cf) (after:Int):∀ (gs:List (List It)) (at_:Int) (ms:List Int),(jq c at_ after gs ms).length=gs.length
 | [],_,_=>rfl
 | g :: r,at_,ms=>by unfold jq;rw [List.length_cons,yn c after r];rfl
theorem Yk {c:Cf} (after:Int) (hc0:0<=za c):∀ (gs:List (List It)) (at_:Int) (ms:List Int) (i:Nat) (g:List It) (m:Int),0<=at_->at_+za c * (gs.length:Int)<=4611686018427387904->gs[i]? = some g->ms[i]? = some m ->
  (jq c at_ after gs ms)[i]? = some ⟨at_+za c * (i:Int),m,(g.length:Int),jv (if i+1=gs.length then after else at_+za c * ((i:Int)+1)) false,g⟩
 | [],_,_,i,g,m,_,_,hg,_=>by simp at hg
 | a :: r,at_,ms,i,g,m,h0,hb,hg,hm=>by
  have hlen:za c * (((a :: r).length:Nat):Int)=za c * (r.length:Int)+za c:=by rw [List.length_cons,Int.natCast_add,Int.mul_add];simp
  have hrl:0<=za c * (r.length:Int):=Int.mul_nonneg hc0 (by omega)
  rw [hlen] at hb
  have hw:wrap64 (at_+za c)=at_+za c:=w64 (by omega) (by omega)
  unfold jq
  rw [hw]
  cases i with
  | zero =>
   obtain rfl:a=g:=by simpa using hg
   have hmm:ms.headD 0=m:=by cases ms <;> simp_all
   rw [List.getElem?_cons_zero,hmm]
   congr 2
   ·simp
   ·congr 1
    by_cases hr:r=[]
    ·subst hr;simp
    ·rw [qd hr,qd (by rw [List.length_cons];have:=List.length_pos_iff.2 hr;omega)];simp
  | succ i =>
   rw [List.getElem?_cons_succ]
   have hm':ms.tail[i]? = some m:=by cases ms <;> simp_all
   rw [Yk after hc0 r (at_+za c) ms.tail i g m (by omega) (by omega) (by simpa using hg) hm']
   have e1:at_+za c+za c * (i:Int)=at_+za c * ((i+1:Nat):Int):=by rw [Int.natCast_add,Int.mul_add];simp;omega
   have e2:at_+za c+za c * ((i:Int)+1)=at_+za c * (((i+1:Nat):Int)+1):=by rw [Int.natCast_add,Int.mul_add,Int.mul_add,Int.mul_add];simp;omega
   rw [e1,e2,List.length_cons]
   congr 3
   by_cases h:i+1=r.length
   ·rw [qf h,qf (by omega)]
   ·rw [qd h,qd (by omega)]
def KepAt (w:World) (s:List It) (vs:List Int) (u x:Value) (wr:World):Prop:=∃ i out,i<=s.length/\x = .int .i64 (i:Nat)/\out.length<=i/\wr.ownsRow w.heap.size 99 3 u out.length (out.flatMap fT)/\Fr [] w wr/\out++X6 vs (s.drop i)=X6 vs s
def qas (wr:World) (vs:List Int) (last:Bool) (P:Int->Bool) (u x:Value) (w':World):Prop:=∃ k,k<=vs.length/\x = .int .i64 (k:Nat)/\u = .bool (last || (vs.take k).any P)/\Fr [] wr w'
theorem Uq {P:Int->Bool} {vs:List Int} {k:Nat} {z:Int} (hz:vs[k]? = some z):(vs.take (k+1)).any P=((vs.take k).any P || P z):=by
 rw [List.take_add_one,hz,Option.toList_some,List.any_append];simp
theorem q7l {vs:List Int} {s:List It} {i:Nat} {x:It} (hx:s[i]? = some x):X6 vs (s.drop i)=if Xr x s[i+1]? vs=true then x :: X6 vs (s.drop (i+1)) else X6 vs (s.drop (i+1)):=by
 obtain ⟨hi,rfl⟩:=List.getElem?_eq_some_iff.1 hx
 rw [List.drop_eq_getElem_cons hi]
 show (if Xr _ (s.drop (i+1)).head? vs=true then _ else _)=_
 rw [List.head?_drop]
theorem q8i (l:List It) (vs:List Int) (v u:Value) (w:World) (hl:l.length<=1000) (hvl:vs.length<=1000) (h:Sq fT w v l) (hv:Sq fI w u vs) :
  Calls Tryz.prog 229 #[v,u] w fun e w'=>(∃ r,e = .returned r/\w'.ownsRow w.heap.size 99 3 r (Yz l vs).length ((Yz l vs).flatMap fT))/\Fr [] w w':=by
 unfold Yz
 obtain ⟨av,cv,rfl,hcv,hmv,-⟩:=id hv
 go_enter Tryz.func229,Tryz.ntmps229
 go_wp2_with fail
 refine (q7u l v w hl h).mono ?_;rintro e w1 ⟨⟨u1,rfl,r1⟩,F1⟩
 have hs1:(Z6 l).length<=1000:=by rw [Xb];exact hl
 generalize hso:Z6 l=s at *
 have HSO:=q9 hso
 clear hso
 obtain ⟨asl,csl,rfl,hcs,hms,-⟩:=id (Sq.own (f:=fT) r1)
 have S1:=Sq.own (f:=fT) r1
 have hv1:=hv.up F1
 have HF1:=q9 F1
 clear r1 h hv F1
 go_wp2_with fail
 go_loopw [6,7] (KepAt w1 s vs) (fun _ x _=>s.length - (intOf x).toNat)
 case atStart=>exact ⟨0,[],by omega,rfl,by simp,⟨rfl,.inl ⟨rfl,rfl⟩⟩,Fr.refl _ _,by simp⟩
 case round =>
  obtain ⟨i,out,hi,rfl,ho,hr,F,hk⟩:=hrel
  by_cases hlt:i<s.length
  ·obtain ⟨x,hx⟩:∃ x,s[i]? = some x:=⟨s[i],List.getElem?_eq_getElem hlt⟩
   have hS:=S1.up F
   obtain ⟨gs,os,rfl,x0,x1,x2⟩:=xk hS hx
   rw [q7l hx] at hk
   obtain ⟨ao,co,rfl,hco,hcm,-⟩:=id (Sq.own (f:=fT) hr)
   have HK:=q9 hk
   clear hk
   by_cases hE:i+1=s.length
   ·have hn:s[i+1]? = none:=List.getElem?_eq_none (by omega)
    have hkb:Xr x s[i+1]? vs=true:=by rw [hn];simp [Xr]
    have HKB:=q9 hkb
    have g1:(((i:Nat):Int)+1 == ((s.length:Nat):Int))=true:=by simp;omega
    clear hkb hn
    go_wp2_with fail
    have k0:=qb x0
    skip
    refine wiq ?_
    repeat (go_big_quiet_step (fail))
    refine wpQuiet_nil ?_
    intro w5 F5
    clear k0
    go_wp2_with fail
    have HFF:=q9 (F.trans F5)
    have r5:=q9 (qm hr F5)
    have x0:=F5.cell x0 (by simp)
    have x1:=F5.cell x1 (by simp)
    have x2:=F5.cell x2 (by simp)
    skip
    have HV5:=q9 (hv1.up HFF.out)
    go_loopw [9,10] (qas w5 vs true (fun _=>false)) (fun _ x _=>vs.length - (intOf x).toNat)
    case atStart=>exact ⟨0,Nat.zero_le _,rfl,by simp,Fr.refl _ _⟩
    case round =>
     obtain ⟨k,hk,rfl,hu,F6⟩:=hrel
     by_cases hkl:k<vs.length
     ·obtain ⟨z,hz⟩:∃ z,vs[k]? = some z:=⟨vs[k],List.getElem?_eq_getElem hkl⟩
      have hmore:=Uq (P:=(fun _=>false)) hz
      have HM:=q9 hmore
      clear hmore
      have HF6:=q9 F6
      have hu':=hu.trans (show _=Value.bool true by simp)
      subst hu'
      clear hu
      clear F6
      go_wp2_with fail
      refine wiq ?_
      repeat (go_big_quiet_step (fail))
      refine wpQuiet_nil ?_
      intro w7 F7
      go_wp2_with fail
      go_roundw
      case rel=>exact ⟨k+1,by omega,by go_num,by simp,HF6.out.trans F7⟩
      case measure=>simp [intOf];omega
     ·obtain rfl:k=vs.length:=by omega
      rw [List.take_length] at hu
      have hu':=hu.trans (show _=Value.bool true by simp)
      subst hu'
      clear hu
      have x0:=F6.cell x0 (by simp)
      have x1:=F6.cell x1 (by simp)
      have x2:=F6.cell x2 (by simp)
      have HFG:=q9 (HFF.out.trans F6)
      have r6:=qm r5.out F6
      have F12:=(Fr.refl [] wr).alloc (.cells #[.int .i64 x.k,.int .i64 x.v,.int .i64 x.d] 99)
      have B12:=Go.heap_alloc_new wr (.cells #[.int .i64 x.k,.int .i64 x.v,.int .i64 x.d] 99)
      have r12:=qm r6 F12
      have HG:=q9 (HFG.out.trans F12)
      clear r6 F12 F6
      go_wp2_with (at_builtin;refine qp zh rfl _ _ 91 rfl Tryz.underlying91 itI rfl (B:=w1.heap.size) _ out rfl r12 _ [x] rfl (Sq.block B12 rfl rfl (Nat.le_refl _) (by simp [maxLen])) (by simp;omega) (by decide) HG.out.size ?_;intro a21 c21 w21 r21 f21)
      have HR:=q9 (show w21.ownsRow w1.heap.size 99 3 (.slice a21 (out.length+1) c21) (out++[x]).length ((out++[x]).flatMap fT) by rw [show (Value.slice a21 (out++[x]).length c21)=Value.slice a21 (out.length+1) c21 by simp] at r21;exact r21)
      have HG2:=q9 (HG.out.own f21 (z8 r12))
      clear r21 f21 r12 B12
      go_wp2_with fail
      go_roundw
      case rel=>exact ⟨i+1,out++[x],by omega,by go_num,by simp;omega,HR.out,HG2.out,by rw [<- HK.out,HKB.out];simp⟩
      case measure=>simp [intOf];omega
   ·obtain ⟨y,hy⟩:∃ y,s[i+1]? = some y:=⟨s[i+1],List.getElem?_eq_getElem (by omega)⟩
    obtain ⟨gs',os',hgs,y0,y1,-⟩:=xk hS hy
    simp only [Option.some.injEq,Addr.mk.injEq] at hgs
    obtain ⟨rfl,rfl,-⟩:=hgs
    by_cases hD:¬ y.k=x.k
    ·have hkb:Xr x s[i+1]? vs=true:=by rw [hy];simp [Xr,hD]
     have g2:(y.k == x.k)=false:=by simpa using hD
     have g3:(y.k != x.k)=true:=by simpa using hD
     have HKB:=q9 hkb
     have HD:=q9 hD
     have g1:(((i:Nat):Int)+1 == ((s.length:Nat):Int))=false:=by simp;omega
     clear hkb hD
     go_wp2_with fail
     have k0:=qb x0
     have j0:=qb y0
     refine wiq ?_
     repeat (go_big_quiet_step (fail))
     refine wpQuiet_nil ?_
     intro w5 F5
     clear k0 j0
     go_wp2_with fail
     have HFF:=q9 (F.trans F5)
     have r5:=q9 (qm hr F5)
     have x0:=F5.cell x0 (by simp)
     have x1:=F5.cell x1 (by simp)
     have x2:=F5.cell x2 (by simp)
     have y1:=F5.cell y1 (by simp)
     have HV5:=q9 (hv1.up HFF.out)
     go_loopw [9,10] (qas w5 vs true (fun _=>false)) (fun _ x _=>vs.length - (intOf x).toNat)
     case atStart=>exact ⟨0,Nat.zero_le _,rfl,by simp,Fr.refl _ _⟩
     case round =>
      obtain ⟨k,hk,rfl,hu,F6⟩:=hrel
      by_cases hkl:k<vs.length
      ·obtain ⟨z,hz⟩:∃ z,vs[k]? = some z:=⟨vs[k],List.getElem?_eq_getElem hkl⟩
       have hmore:=Uq (P:=(fun _=>false)) hz
       have HM:=q9 hmore
       clear hmore
       have HF6:=q9 F6
       have hu':=hu.trans (show _=Value.bool true by simp)
       subst hu'
       clear hu
       clear F6
       go_wp2_with fail
       refine wiq ?_
       repeat (go_big_quiet_step (fail))
       refine wpQuiet_nil ?_
       intro w7 F7
       go_wp2_with fail
       go_roundw
       case rel=>exact ⟨k+1,by omega,by go_num,by simp,HF6.out.trans F7⟩
       case measure=>simp [intOf];omega
      ·obtain rfl:k=vs.length:=by omega
       rw [List.take_length] at hu
       have hu':=hu.trans (show _=Value.bool true by simp)
       subst hu'
       clear hu
       have x0:=F6.cell x0 (by simp)
       have x1:=F6.cell x1 (by simp)
       have x2:=F6.cell x2 (by simp)
       have HFG:=q9 (HFF.out.trans F6)
       have r6:=qm r5.out F6
       have F12:=(Fr.refl [] wr).alloc (.cells #[.int .i64 x.k,.int .i64 x.v,.int .i64 x.d] 99)
       have B12:=Go.heap_alloc_new wr (.cells #[.int .i64 x.k,.int .i64 x.v,.int .i64 x.d] 99)
       have r12:=qm r6 F12
       have HG:=q9 (HFG.out.trans F12)
       clear r6 F12 F6
       go_wp2_with (at_builtin;refine qp zh rfl _ _ 91 rfl Tryz.underlying91 itI rfl (B:=w1.heap.size) _ out rfl r12 _ [x] rfl (Sq.block B12 rfl rfl (Nat.le_refl _) (by simp [maxLen])) (by simp;omega) (by decide) HG.out.size ?_;intro a21 c21 w21 r21 f21)
       have HR:=q9 (show w21.ownsRow w1.heap.size 99 3 (.slice a21 (out.length+1) c21) (out++[x]).length ((out++[x]).flatMap fT) by rw [show (Value.slice a21 (out++[x]).length c21)=Value.slice a21 (out.length+1) c21 by simp] at r21;exact r21)
       have HG2:=q9 (HG.out.own f21 (z8 r12))
       clear r21 f21 r12 B12
       go_wp2_with fail
       go_roundw
       case rel=>exact ⟨i+1,out++[x],by omega,by go_num,by simp;omega,HR.out,HG2.out,by rw [<- HK.out,HKB.out];simp⟩
       case measure=>simp [intOf];omega
    ·have hkb:Xr x s[i+1]? vs=vs.any (fun z=>decide (x.v<=z) && decide (z<y.v)):=by rw [hy];have hD:=Classical.not_not.1 hD;simp [Xr,hD]
     have g2:(y.k == x.k)=true:=by simpa using Classical.not_not.1 hD
     have g3:(y.k != x.k)=false:=by simpa using Classical.not_not.1 hD
     have HKB:=q9 hkb
     have HD:=q9 hD
     have g1:(((i:Nat):Int)+1 == ((s.length:Nat):Int))=false:=by simp;omega
     clear hkb hD
     go_wp2_with fail
     have k0:=qb x0
     have j0:=qb y0
     refine wiq ?_
     repeat (go_big_quiet_step (fail))
     refine wpQuiet_nil ?_
     intro w5 F5
     clear k0 j0
     go_wp2_with fail
     have HFF:=q9 (F.trans F5)
     have r5:=q9 (qm hr F5)
     have x0:=F5.cell x0 (by simp)
     have x1:=F5.cell x1 (by simp)
     have x2:=F5.cell x2 (by simp)
     have y1:=F5.cell y1 (by simp)
     have HV5:=q9 (hv1.up HFF.out)
     go_loopw [9,10] (qas w5 vs false (fun z=>decide (x.v<=z) && decide (z<y.v))) (fun _ x _=>vs.length - (intOf x).toNat)
     case atStart=>exact ⟨0,Nat.zero_le _,rfl,by simp,Fr.refl _ _⟩
     case round =>
      obtain ⟨k,hk,rfl,hu,F6⟩:=hrel
      by_cases hkl:k<vs.length
      ·obtain ⟨z,hz⟩:∃ z,vs[k]? = some z:=⟨vs[k],List.getElem?_eq_getElem hkl⟩
       have hmore:=Uq (P:=(fun z=>decide (x.v<=z) && decide (z<y.v))) hz
       have HM:=q9 hmore
       clear hmore
       have HF6:=q9 F6
       by_cases hP:(vs.take k).any (fun z=>decide (x.v<=z) && decide (z<y.v))=true
       ·have hu':=hu.trans (show _=Value.bool true by rw [hP];rfl)
        subst hu'
        clear hu
        have HP:=q9 hP
        clear hP F6
        go_wp2_with fail
        refine wiq ?_
        repeat (go_big_quiet_step (fail))
        refine wpQuiet_nil ?_
        intro w7 F7
        go_wp2_with fail
        go_roundw
        case rel=>exact ⟨k+1,by omega,by go_num,by rw [HM.out,HP.out];rfl,HF6.out.trans F7⟩
        case measure=>simp [intOf];omega
       ·rw [Bool.not_eq_true] at hP
        have hu':=hu.trans (show _=Value.bool false by rw [hP];rfl)
        subst hu'
        clear hu
        have HP:=q9 hP
        clear hP
        have y1:=qb (F6.cell y1 (by simp))
        have x1:=qb (F6.cell x1 (by simp))
        obtain ⟨gv,ov,rfl,z0⟩:=Zn (HV5.out.up F6) hz
        have z0:=qb z0
        clear F6
        by_cases ha:x.v<=z
        ·have g5:decide (x.v<=z)=true:=by simpa using ha
         have HA:=q9 ha
         clear ha
         by_cases hb:z<y.v
         ·have g6:decide (y.v>z)=true:=by simpa using hb
          have HB:=q9 hb
          clear hb
          go_wp2_with fail
          refine wiq ?_
          repeat (go_big_quiet_step (fail))
          refine wpQuiet_nil ?_
          intro w7 F7
          go_wp2_with fail
          go_roundw
          case rel=>exact ⟨k+1,by omega,by go_num,by rw [HM.out,HP.out];simp [HA.out,HB.out],HF6.out.trans F7⟩
          case measure=>simp [intOf];omega
         ·have g6:decide (y.v>z)=false:=by simpa using hb
          have HB:=q9 hb
          clear hb
          go_wp2_with fail
          refine wiq ?_
          repeat (go_big_quiet_step (fail))
          refine wpQuiet_nil ?_
          intro w7 F7
          go_wp2_with fail
          go_roundw
          case rel=>exact ⟨k+1,by omega,by go_num,by rw [HM.out,HP.out];simp only [decide_eq_false (Int.not_lt.2 HB.out),Bool.and_false];rfl,HF6.out.trans F7⟩
          case measure=>simp [intOf];omega
        ·have g5:decide (x.v<=z)=false:=by simpa using ha
         have HA:=q9 ha
         clear ha
         go_wp2_with fail
         refine wiq ?_
         repeat (go_big_quiet_step (fail))
         refine wpQuiet_nil ?_
         intro w7 F7
         go_wp2_with fail
         go_roundw
         case rel=>exact ⟨k+1,by omega,by go_num,by rw [HM.out,HP.out];simp only [decide_eq_false (Int.not_le.2 HA.out),Bool.false_and];rfl,HF6.out.trans F7⟩
         case measure=>simp [intOf];omega
      ·obtain rfl:k=vs.length:=by omega
       rw [List.take_length] at hu
       by_cases hq:vs.any (fun z=>decide (x.v<=z) && decide (z<y.v))=true
       ·have hu':=hu.trans (show _=Value.bool true by rw [hq];rfl)
        subst hu'
        clear hu
        have HQ:=q9 hq
        clear hq
        have x0:=F6.cell x0 (by simp)
        have x1:=F6.cell x1 (by simp)
        have x2:=F6.cell x2 (by simp)
        have HFG:=q9 (HFF.out.trans F6)
        have r6:=qm r5.out F6
        have F12:=(Fr.refl [] wr).alloc (.cells #[.int .i64 x.k,.int .i64 x.v,.int .i64 x.d] 99)
        have B12:=Go.heap_alloc_new wr (.cells #[.int .i64 x.k,.int .i64 x.v,.int .i64 x.d] 99)
        have r12:=qm r6 F12
        have HG:=q9 (HFG.out.trans F12)
        clear r6 F12 F6
        go_wp2_with (at_builtin;refine qp zh rfl _ _ 91 rfl Tryz.underlying91 itI rfl (B:=w1.heap.size) _ out rfl r12 _ [x] rfl (Sq.block B12 rfl rfl (Nat.le_refl _) (by simp [maxLen])) (by simp;omega) (by decide) HG.out.size ?_;intro a21 c21 w21 r21 f21)
        have HR:=q9 (show w21.ownsRow w1.heap.size 99 3 (.slice a21 (out.length+1) c21) (out++[x]).length ((out++[x]).flatMap fT) by rw [show (Value.slice a21 (out++[x]).length c21)=Value.slice a21 (out.length+1) c21 by simp] at r21;exact r21)
        have HG2:=q9 (HG.out.own f21 (z8 r12))
        clear r21 f21 r12 B12
        go_wp2_with fail
        go_roundw
        case rel=>exact ⟨i+1,out++[x],by omega,by go_num,by simp;omega,HR.out,HG2.out,by rw [<- HK.out,HKB.out,HQ.out];simp⟩
        case measure=>simp [intOf];omega
       ·rw [Bool.not_eq_true] at hq
        have hu':=hu.trans (show _=Value.bool false by rw [hq];rfl)
        subst hu'
        clear hu
        have HQ:=q9 hq
        clear hq
        have HR:=q9 (qm r5.out F6)
        have HG2:=q9 (HFF.out.trans F6)
        clear F6
        go_wp2_with fail
        go_roundw
        case rel=>exact ⟨i+1,out,by omega,by go_num,by omega,HR.out,HG2.out,by rw [<- HK.out,HKB.out,HQ.out];simp⟩
        case measure=>simp [intOf];omega
  ·obtain rfl:i=s.length:=by omega
   rw [List.drop_length] at hk
   have hk':out=X6 vs s:=by rw [<- hk];simp [X6]
   rw [hk'] at hr
   have HR:=q9 (Z5 hr HF1.out.size)
   have HG:=q9 (HF1.out.trans F)
   obtain ⟨ao,co,rfl,-,-⟩:=Z4 hr
   clear hk' hk hr F
   go_wp2_with fail
   go_ret
   rw [HSO.out]
   exact ⟨⟨_,rfl,HR.out⟩,HG.out⟩
structure Sv where
 a:Option Addr
 n:Nat
 c:Nat
def Sv.v (s:Sv):Value:=.slice s.a s.n s.c
def fS (s:Sv):List Value:=[s.v]
theorem U8:Lays fS 1:=⟨fun _=>rfl,fun x u hu=>by rw [List.mem_singleton.1 hu];rfl,by decide⟩
theorem svI:(Tryz.prog.info? 91).map (fun i=>(i.zero,i.size,i.bytes))=some (some (.slice none 0 0),1,24):=by kernel_rfl
def Gs (w:World) (ss:List Sv) (gs:List (List It)):Prop:=ss.length=gs.length/\∀ (i:Nat) (s:Sv) (g:List It),ss[i]? = some s->gs[i]? = some g->Sq fT w s.v g
theorem Gs.kept {S:List Nat} {w w':World} {ss:List Sv} {gs:List (List It)} (h:Gs w ss gs) (k:Fr S w w') (hS:∀ s,s∈ss->∀ g,g∈s.v.ownBlock.toList->g∉S):Gs w' ss gs :=
 ⟨h.1,fun i s g e1 e2=>(h.2 i s g e1 e2).kept k (hS s (List.mem_of_getElem? e1))⟩
theorem Gs.up {w w':World} {ss:List Sv} {gs:List (List It)} (h:Gs w ss gs) (k:Fr [] w w'):Gs w' ss gs:=h.kept k (by simp)
theorem Gs.one {w:World} {ss:List Sv} {gs:List (List It)} (h:Gs w ss gs) {i:Nat} {g:List It} (hi:gs[i]? = some g):∃ s,ss[i]? = some s/\s.n=g.length/\Sq fT w s.v g:=by
 have hlt:=(List.getElem?_eq_some_iff.1 hi).1
 have e1:ss[i]? = some (ss[i]'(by rw [h.1];exact hlt)):=List.getElem?_eq_getElem _
 have hs:=h.2 i _ g e1 hi
 refine ⟨_,e1,?_,hs⟩
 obtain ⟨a',c',e,-⟩:=hs
 unfold Sv.v at e
 simp only [Value.slice.injEq] at e
 exact e.2.1
theorem Jv {w:World} {a:Option Addr} {n cap i:Nat} {xs:List Sv} {x:Sv} (h:Sq fS w (.slice a n cap) xs) (hi:xs[i]? = some x) :
  ∃ g off,a=some ⟨g,off,none⟩/\w.cell? ⟨g,off+i,none⟩=some (.slice x.a x.n x.c):=by
 obtain ⟨-,g,off,rfl,hc⟩:=Sq.cell U8 h hi
 exact ⟨g,off,rfl,by have:=hc 0 x.v rfl;rw [Nat.mul_one,Nat.add_zero] at this;exact this⟩
theorem Yt (least:Int) (gs:List (List It)):(xo least gs).length=gs.length:=by
 cases gs <;> simp [xo]
theorem q1z (least:Int) {gs:List (List It)} {i:Nat} {g:List It} (hi:gs[i]? = some g):(xo least gs)[i]? = some (if i=0 then least else (g.head?.map It.k).getD 0):=by
 cases gs with
 | nil=>simp at hi
 | cons y r =>
  cases i with
  | zero=>rfl
  | succ i =>
   rw [List.getElem?_cons_succ] at hi
   show (least :: r.map _)[i+1]? = _
   rw [List.getElem?_cons_succ,List.getElem?_map,hi];rfl
def MinAt (w:World) (ms:List Int) (u x:Value) (wr:World):Prop:=∃ i,i<=ms.length/\x = .int .i64 (i:Nat)/\wr.ownsRow w.heap.size 3 1 u (ms.take i).length ((ms.take i).flatMap fI)/\Fr [] w wr
theorem q8k (least:Int) (gs:List (List It)) (ss:List Sv) (u:Value) (w:World) (hl:gs.length<=1000) (h:Sq fS w u ss) (hg:Gs w ss gs) :
  Calls Tryz.prog 230 #[.int .i64 least,u] w fun e w'=>(∃ r,e = .returned r/\w'.ownsRow w.heap.size 3 1 r (xo least gs).length ((xo least gs).flatMap fI))/\Fr [] w w':=by
 obtain ⟨av,cv,rfl,hcv,hmv,-⟩:=id h
 have hml:=Yt least gs
 have hsl:=hg.1
 rw [hsl] at h hcv ⊢
 have HAT:=q9 (fun i g=>@q1z least gs i g)
 generalize hms:xo least gs=ms at *
 have HMS:=q9 hms
 rw [<- hml] at h hcv ⊢
 have hmk:ms.length<=1000:=by omega
 have HML:=q9 hml
 clear hms hml hsl
 go_enter Tryz.func230,Tryz.ntmps230
 go_wp2_with fail
 go_loopw [5,6] (MinAt w ms) (fun _ x _=>ms.length - (intOf x).toNat)
 case atStart=>exact ⟨0,by omega,rfl,⟨rfl,.inl ⟨rfl,rfl⟩⟩,Fr.refl _ _⟩
 case round =>
  obtain ⟨i,hi,rfl,hr,F⟩:=hrel
  by_cases hlt:i<ms.length
  ·obtain ⟨g,hgi⟩:∃ g,gs[i]? = some g:=⟨gs[i]'(by have:=HML.out;omega),List.getElem?_eq_getElem _⟩
   have hm:=HAT.out i g hgi
   obtain ⟨s,hs1,hs2,hs3⟩:=(hg.up F).one hgi
   obtain ⟨gb,ob,rfl,c0⟩:=Jv (h.up F) hs1
   rw [hs2] at c0
   have hs3':Sq fT wr (.slice s.a g.length s.c) g:=by rw [<- hs2];exact hs3
   obtain ⟨ao,co,rfl,hco,hcm,-⟩:=id (Sq.own (f:=fI) hr)
   have hlen:(ms.take i).length=i:=by rw [List.length_take];omega
   have hnx:∀ m,ms[i]? = some m->ms.take (i+1)=ms.take i++[m]:=fun m hm=>by rw [List.take_add_one,hm];rfl
   generalize ms.take i=out at *
   have HL:=q9 hlen
   clear hlen hs3
   by_cases h0:i=0
   ·subst h0
    rw [qf rfl] at hm
    have hm:ms[0]? = some (least):=hm
    have HNX:=q9 (hnx _ hm)
    have F12:=(Fr.refl [] wr).alloc (.cells #[.int .i64 (least)] 3)
    have B12:=Go.heap_alloc_new wr (.cells #[.int .i64 (least)] 3)
    have r12:=qm hr F12
    have HG:=q9 (F.trans F12)
    clear F12 hnx hm
    go_wp2_with (at_builtin;refine qp yc rfl _ _ 25 rfl Tryz.underlying25 q4t rfl (B:=w.heap.size) _ out rfl r12 _ [least] rfl (Sq.block B12 rfl rfl (Nat.le_refl _) (by simp [maxLen])) (by have:=HL.out;have:=HML.out;simp;omega) (by decide) HG.out.size ?_;intro a21 c21 w21 r21 f21)
    have HR:=q9 (show w21.ownsRow w.heap.size 3 1 (.slice a21 (out.length+1) c21) (out++[least]).length ((out++[least]).flatMap fI) by rw [show (Value.slice a21 (out++[least]).length c21)=Value.slice a21 (out.length+1) c21 by simp] at r21;exact r21)
    have HG2:=q9 (HG.out.own f21 (z8 r12))
    clear r21 f21 r12 B12
    go_wp2_with fail
    go_roundw
    case rel=>exact ⟨0+1,by omega,by go_num,by rw [HNX.out];exact HR.out,HG2.out⟩
    case measure=>simp [intOf];omega
   ·rw [qd h0] at hm
    cases g with
    | nil =>
     have g1:(((i:Nat):Int) == 0)=false:=by simp;omega
     have hm:ms[i]? = some ((0:Int)):=hm
     have HNX:=q9 (hnx _ hm)
     have F12:=(Fr.refl [] wr).alloc (.cells #[.int .i64 ((0:Int))] 3)
     have B12:=Go.heap_alloc_new wr (.cells #[.int .i64 ((0:Int))] 3)
     have r12:=qm hr F12
     have HG:=q9 (F.trans F12)
     clear F12 hnx hm
     go_wp2_with (at_builtin;refine qp yc rfl _ _ 25 rfl Tryz.underlying25 q4t rfl (B:=w.heap.size) _ out rfl r12 _ [(0:Int)] rfl (Sq.block B12 rfl rfl (Nat.le_refl _) (by simp [maxLen])) (by have:=HL.out;have:=HML.out;simp;omega) (by decide) HG.out.size ?_;intro a21 c21 w21 r21 f21)
     have HR:=q9 (show w21.ownsRow w.heap.size 3 1 (.slice a21 (out.length+1) c21) (out++[(0:Int)]).length ((out++[(0:Int)]).flatMap fI) by rw [show (Value.slice a21 (out++[(0:Int)]).length c21)=Value.slice a21 (out.length+1) c21 by simp] at r21;exact r21)
     have HG2:=q9 (HG.out.own f21 (z8 r12))
     clear r21 f21 r12 B12
     go_wp2_with fail
     go_roundw
     case rel=>exact ⟨i+1,by omega,by go_num,by rw [HNX.out];exact HR.out,HG2.out⟩
     case measure=>simp [intOf];omega
    | cons z r =>
     have g1:(((i:Nat):Int) == 0)=false:=by simp;omega
     obtain ⟨gz,oz,ez,z0,-,-⟩:=xk hs3' (i:=0) (x:=z) rfl
     rw [ez] at c0
     simp only [Nat.zero_mul,Nat.add_zero] at z0
     have hm:ms[i]? = some (z.k):=hm
     have HNX:=q9 (hnx _ hm)
     have F12:=(Fr.refl [] wr).alloc (.cells #[.int .i64 (z.k)] 3)
     have B12:=Go.heap_alloc_new wr (.cells #[.int .i64 (z.k)] 3)
     have r12:=qm hr F12
     have HG:=q9 (F.trans F12)
     clear F12 hnx hm
     go_wp2_with (at_builtin;refine qp yc rfl _ _ 25 rfl Tryz.underlying25 q4t rfl (B:=w.heap.size) _ out rfl r12 _ [z.k] rfl (Sq.block B12 rfl rfl (Nat.le_refl _) (by simp [maxLen])) (by have:=HL.out;have:=HML.out;simp;omega) (by decide) HG.out.size ?_;intro a21 c21 w21 r21 f21)
     have HR:=q9 (show w21.ownsRow w.heap.size 3 1 (.slice a21 (out.length+1) c21) (out++[z.k]).length ((out++[z.k]).flatMap fI) by rw [show (Value.slice a21 (out++[z.k]).length c21)=Value.slice a21 (out.length+1) c21 by simp] at r21;exact r21)
     have HG2:=q9 (HG.out.own f21 (z8 r12))
     clear r21 f21 r12 B12
     go_wp2_with fail
     go_roundw
     case rel=>exact ⟨i+1,by omega,by go_num,by rw [HNX.out];exact HR.out,HG2.out⟩
     case measure=>simp [intOf];omega
  ·obtain rfl:i=ms.length:=by omega
   rw [List.take_length] at hr
   have HR:=q9 hr
   obtain ⟨ao,co,rfl,-,-⟩:=Z4 hr
   clear hr
   go_wp2_with fail
   go_ret
   exact ⟨⟨_,rfl,HR.out⟩,F⟩
end Go.Proofs.YtppajakfaomkaaaGreatDoor.Mx
namespace Go.Proofs.YtppajakfaomkaaaGreatDoor.Mx
open Go.RowKit Ar Ref
structure Lok where
 c:Cf
 chunk:Int
 lo:Int
 hi:Int
 most:Int
 line:Int
 i:Int
 count:Int
 s:Int
 k:Int
 g:Int
 lv:Value
 l:List It
def Lok.cells (x:Lok):Array Value:=#[.int .i64 x.c.t,.int .i64 x.c.c,.int .i64 x.c.wd,.int .i64 x.c.v,.int .i64 x.chunk,.int .i64 x.lo,.int .i64 x.hi,.int .i64 x.most,.int .i64 x.line,.int .i64 x.i,.int .i64 x.count,.int .i64 x.s,.int .i64 x.k,.int .i64 x.g,x.lv]
def xu (w:World) (b:Nat) (x:Lok):Prop:=Ob w b 94 x.cells
theorem qw {w:World} {b:Nat} {x:Lok} (h:xu w b x):w.cell? ⟨b,0,none⟩=some (.int .i64 x.c.t)/\w.cell? ⟨b,1,none⟩=some (.int .i64 x.c.c)/\w.cell? ⟨b,2,none⟩=some (.int .i64 x.c.wd)/\w.cell? ⟨b,3,none⟩=some (.int .i64 x.c.v)/\w.cell? ⟨b,4,none⟩=some (.int .i64 x.chunk)/\w.cell? ⟨b,5,none⟩=some (.int .i64 x.lo)/\w.cell? ⟨b,6,none⟩=some (.int .i64 x.hi)/\w.cell? ⟨b,7,none⟩=some (.int .i64 x.most)/\w.cell? ⟨b,8,none⟩=some (.int .i64 x.line)/\w.cell? ⟨b,9,none⟩=some (.int .i64 x.i)/\w.cell? ⟨b,10,none⟩=some (.int .i64 x.count)/\w.cell? ⟨b,11,none⟩=some (.int .i64 x.s)/\w.cell? ⟨b,12,none⟩=some (.int .i64 x.k)/\w.cell? ⟨b,13,none⟩=some (.int .i64 x.g)/\w.cell? ⟨b,14,none⟩=some (x.lv) :=
 ⟨h.cell rfl,h.cell rfl,h.cell rfl,h.cell rfl,h.cell rfl,h.cell rfl,h.cell rfl,h.cell rfl,h.cell rfl,h.cell rfl,h.cell rfl,h.cell rfl,h.cell rfl,h.cell rfl,h.cell rfl⟩
theorem qaw {w:World} {b:Nat} {t:TypeId} {x0 x1 x2 x3:Value} (h:w.heap[b]? = some (.cells #[x0,x1,x2,x3] t (0,0))) :
  w.cell? ⟨b,0,none⟩=some x0/\w.cell? ⟨b,1,none⟩=some x1/\w.cell? ⟨b,2,none⟩=some x2/\w.cell? ⟨b,3,none⟩=some x3 :=
 ⟨by rw [cell_of_row _ _ _ _ _ _ h];rfl,by rw [cell_of_row _ _ _ _ _ _ h];rfl,by rw [cell_of_row _ _ _ _ _ _ h];rfl,by rw [cell_of_row _ _ _ _ _ _ h];rfl⟩
def Lok.new (c:Cf) (chunk lo hi most:Int):Lok:=⟨c,chunk,lo,hi,most,1,0,0,0,0,0,.slice none 0 0,[]⟩
def Lok.on (x:Lok):Lok:=if x.count<=x.i+1 then { x with i:=x.i+1,line:=0 } else { x with i:=x.i+1,line:=2 }
def Xx (l:List It) (key:Int):Option Nat:=l.findIdx? (fun y=>y.k == key)
def J2 (l:List It) (key:Int):Int:=match Xx l key with | some i=>(i:Int) | none=>-1
def q0b:List It->It->List It
 | [],x=>[x]
 | y :: r,x=>if y.k<x.k then y :: q0b r x else x :: y :: r
def q0y (l:List It) (x:It):List It:=match Xx l x.k with | some i=>l.set i x | none=>q0b l x
theorem q6k {l:List It} {x:It} {k:Nat} (hk:k<=l.length) (h1:∀ i y,i<k->l[i]? = some y->y.k<x.k) (h2:∀ y,l[k]? = some y->¬ y.k<x.k):q0b l x=l.take k++[x]++l.drop k:=by
 induction l generalizing k with
 | nil=>simp at hk;subst hk;rfl
 | cons y r ih =>
  unfold q0b
  cases k with
  | zero=>rw [qd (h2 y rfl)];rfl
  | succ k =>
   rw [qf (h1 0 y (by omega) rfl),ih (k:=k) (by simpa using hk) (fun i z hi hz=>h1 (i+1) z (by omega) hz) (fun z hz=>h2 z (by simpa using hz))]
   simp
theorem q3z {l:List It} {key:Int} {i:Nat} {y:It} (hy:l[i]? = some y) (hk:y.k=key) (h:∀ j z,j<i->l[j]? = some z->z.k≠key):Xx l key=some i:=by
 unfold Xx
 have hlt:=(List.getElem?_eq_some_iff.1 hy).1
 rw [List.findIdx?_eq_some_iff_getElem]
 refine ⟨hlt,?_,fun j hj=>?_⟩
 ·have:l[i]=y:=(List.getElem?_eq_some_iff.1 hy).2
  rw [this];simpa using hk
 ·have:=h j l[j] hj (List.getElem?_eq_getElem (by omega))
  simpa using this
theorem q34 {l:List It} {key:Int} (h:∀ (j:Nat) (z:It),l[j]? = some z->z.k≠key):Xx l key=none:=by
 unfold Xx
 rw [List.findIdx?_eq_none_iff]
 intro z hz
 obtain ⟨j,hj⟩:=List.mem_iff_getElem?.1 hz
 simpa using h j z hj
theorem Jw (c:Cf) (chunk lo hi most:Int) (w:World):Calls Tryz.prog 47 #[c.val,.int .i64 chunk,.int .i64 lo,.int .i64 hi,.int .i64 most] w fun e w'=>∃ b,e = .returned (.pointer (some ⟨b,0,none⟩))/\w.heap.size<=b/\xu w' b (Lok.new c chunk lo hi most)/\Fr [] w w':=by
 unfold Cf.val
 have F0:=(Fr.refl [] w).alloc (.cells #[.int .i64 c.t,.int .i64 c.c,.int .i64 c.wd,.int .i64 c.v] 23)
 obtain ⟨c0,c1,c2,c3⟩:=qaw (Go.heap_alloc_new w (.cells #[.int .i64 c.t,.int .i64 c.c,.int .i64 c.wd,.int .i64 c.v] 23))
 go_enter Tryz.func47,Tryz.ntmps47
 go_wp2
 go_ret
 exact ⟨_,rfl,by omega,Ob.newAt (Vg _ _) _ _,F0.alloc _⟩
theorem Qm (x:Lok) (hi:-1<=x.i/\x.i<=100) (b:Nat) (w:World) (h:xu w b x):Calls Tryz.prog 103 #[.pointer (some ⟨b,0,none⟩)] w fun e w'=>e = .returned (.tuple #[])/\xu w' b x.on/\Fr [b] w w':=by
 generalize hy:x.on=y
 have HY:=q9 hy
 clear hy
 obtain ⟨c0,c1,c2,c3,c4,c5,c6,c7,c8,c9,c10,c11,c12,c13,c14⟩:=qw h
 have z:=h.frozen
 go_enter Tryz.func103,Tryz.ntmps103
 go_wp2_with fail
 have h1:xu _ b { x with i:=x.i+1,line:=2 }:=Ob.set (Ob.set h (i:=9) (.int .i64 (x.i+1))) (i:=8) (.int .i64 2)
 have D1:Fr [b] w ((w.setCell ⟨b,9,none⟩ (.int .i64 (x.i+1))).setCell ⟨b,8,none⟩ (.int .i64 2)):=(Fr.setCell _ (by simp)).setCell' _ (by simp)
 clear c0 c1 c2 c3 c4 c5 c6 c7 c8 c9 c10 c11 c12 c13 c14 z
 generalize ((w.setCell ⟨b,9,none⟩ (.int .i64 (x.i+1))).setCell ⟨b,8,none⟩ (.int .i64 2))=w1 at *
 obtain ⟨-,-,-,-,-,-,-,-,-,c9,c10,-,-,-,-⟩:=qw h1
 have k9:=qb c9
 have k10:=qb c10
 clear c9 c10
 refine wiq ?_
 repeat (go_big_quiet_step (fail))
 refine wpQuiet_nil ?_
 intro w2 F2
 have h2:=Ob.up h1 F2
 have D2:=D1.then F2
 clear h1 D1 F2 k9 k10
 obtain ⟨c0,c1,c2,c3,c4,c5,c6,c7,c8,c9,c10,c11,c12,c13,c14⟩:=qw h2
 have z:=h2.frozen
 by_cases hv:x.count<=x.i+1
 ·have hn:y = { x with i:=x.i+1,line:=0 }:=by rw [<- HY.out];unfold Lok.on;simp [hv]
  subst hn
  have g:decide (x.i+1≥x.count)=true:=by simpa using hv
  go_wp2_with fail
  go_end0
  exact ⟨rfl,Ob.set h2 _,D2.trans (Fr.setCell _ (by simp))⟩
 ·have hn:y = { x with i:=x.i+1,line:=2 }:=by rw [<- HY.out];unfold Lok.on;simp [hv]
  subst hn
  have g:decide (x.i+1≥x.count)=false:=by simpa using hv
  go_wp2_with fail
  go_end0
  exact ⟨rfl,h2,D2⟩
def ItAtK (l:List It) (key:Int) (u:Value) (w wr:World):Prop:=∃ k,k<=l.length/\u = .int .i64 (k:Nat)/\wr=w/\∀ j z,j<k->l[j]? = some z->z.k≠key
theorem Uh (x:Lok) (key:Int) (b:Nat) (w:World) (hl:x.l.length<=1000) (h:xu w b x) (hs:Sq fT w x.lv x.l) :
  Calls Tryz.prog 150 #[.pointer (some ⟨b,0,none⟩),.int .i64 key] w fun e w'=>e = .returned (.int .i64 (J2 x.l key))/\w=w':=by
 obtain ⟨a,cap,hv,hcap,hmax,-⟩:=id hs
 obtain ⟨-,-,-,-,-,-,-,-,-,-,-,-,-,-,c14⟩:=qw h
 rw [hv] at c14 hs
 clear hv
 go_enter Tryz.func150,Tryz.ntmps150
 go_wp2_with fail
 go_loopw [5] (fun u wr=>ItAtK x.l key u w wr) (fun u _=>x.l.length - (intOf u).toNat)
 case atStart=>exact ⟨0,Nat.zero_le _,rfl,rfl,by omega⟩
 case round =>
  obtain ⟨k,hk,rfl,rfl,h1⟩:=hrel
  by_cases hlt:k<x.l.length
  ·obtain ⟨y,hy⟩:∃ y,x.l[k]? = some y:=⟨x.l[k],List.getElem?_eq_getElem hlt⟩
   obtain ⟨g,off,rfl,d0,-,-⟩:=xk hs hy
   by_cases hyk:y.k=key
   ·have HR:=q9 (q3z hy hyk h1)
    have g1:(y.k == key)=true:=by simpa using hyk
    clear hyk hy h1
    go_wp2_with fail
    go_ret
    exact Uc (by unfold J2;rw [HR.out])
   ·have g1:(y.k == key)=false:=by simpa using hyk
    have HY:=q9 (qc hy hyk)
    clear hyk hy
    go_wp2_with fail
    go_roundw
    case rel=>exact ⟨k+1,by omega,by go_num,rfl,fun j z hj hz=>by
     by_cases e:j=k
     ·subst e;rw [HY.out.1] at hz;cases hz;exact HY.out.2
     ·exact h1 j z (by omega) hz⟩
    case measure=>simp [intOf];omega
  ·obtain rfl:k=x.l.length:=by omega
   have HR:=q9 (q34 (fun j z hz=>h1 j z (List.getElem?_eq_some_iff.1 hz).1 hz))
   clear h1
   go_wp2_with fail
   go_ret
   exact Uc (by unfold J2;rw [HR.out])
def InsAt (l:List It) (key:Int) (u:Value) (w wr:World):Prop:=∃ k,k<=l.length/\u = .int .i64 (k:Nat)/\Fr [] w wr/\∀ i y,i<k->l[i]? = some y->y.k<key
theorem q5v {l:List It} {x:It} (h:Xx l x.k=none):q0y l x=q0b l x:=by unfold q0y;rw [h]
theorem q6e {l:List It} {x:It} {i:Nat} (h:Xx l x.k=some i):q0y l x=l.set i x:=by unfold q0y;rw [h]
theorem q7c (x:Lok) (it:It) (b:Nat) (w:World) (hN:Xx x.l it.k=none) (hl:x.l.length<=1000) (h:xu w b x) (hs:Sq fT w x.lv x.l) (hb:b∉x.lv.ownBlock.toList) :
  Calls Tryz.prog 106 #[.pointer (some ⟨b,0,none⟩),.agg #[.int .i64 it.k,.int .i64 it.v,.int .i64 it.d]] w fun e w'=>e = .returned (.tuple #[])/\(∃ lv',xu w' b { x with l:=q0b x.l it,lv:=lv' } /\ Sq fT w' lv' (q0b x.l it)/\∀ g,g∈lv'.ownBlock.toList->w.heap.size<=g)/\Fr [b] w w':=by
 obtain ⟨a,cap,hlv,hcap,hmax,-⟩:=id hs
 have F0:=(Fr.refl [] w).alloc (.cells #[.int .i64 it.k,.int .i64 it.v,.int .i64 it.d] 99)
 have ob:=Ob.new w 99 #[.int .i64 it.k,.int .i64 it.v,.int .i64 it.d]
 have hi:=Uh x it.k b _ hl (h.up F0) (hs.up F0)
 rw [show J2 x.l it.k = -1 by unfold J2;rw [hN]] at hi
 have HI:=q9 hi
 clear hi
 go_enter Tryz.func106,Tryz.ntmps106
 go_wp2_with fail
 refine HI.out.mono ?_;rintro e _ ⟨rfl,rfl⟩
 clear HI
 replace h:=h.up F0
 replace hs:=hs.up F0
 have hbl:=h.lt
 generalize (w.alloc (.cells #[.int .i64 it.k,.int .i64 it.v,.int .i64 it.d] 99))=w1 at *
 have hc14:=(qw h).2.2.2.2.2.2.2.2.2.2.2.2.2.2
 rw [hlv] at hs hb hc14
 go_wp2_with fail
 go_loopw [5] (fun u wr=>InsAt x.l it.k u w1 wr) (fun u _=>x.l.length - (intOf u).toNat)
 case atStart=>exact ⟨0,Nat.zero_le _,rfl,Fr.refl _ _,by omega⟩
 case round =>
  obtain ⟨k,hk,rfl,FL,h1⟩:=hrel
  have ob:=ob.up FL
  have h:=h.up FL
  have hs:=hs.up FL
  have F0:=F0.trans FL
  have hbl:=h.lt
  have hc14:=FL.cell hc14 (by simp)
  by_cases hlt:k<x.l.length
  ·obtain ⟨y,hy⟩:∃ y,x.l[k]? = some y:=⟨x.l[k],List.getElem?_eq_getElem hlt⟩
   obtain ⟨g,off,rfl,d0,d1,d2⟩:=xk hs hy
   have HYY:=q9 hy
   clear hy
   have k14:=qb hc14
   have q0:=qb (ob.cell (i:=0) rfl)
   have dd0:=qb d0
   clear d0 d1 d2
   by_cases hyk:y.k<it.k
   ·have g1:decide (y.k<it.k)=true:=by simpa using hyk
    have gk:decide ((k:Int)<x.l.length)=true:=by simp;omega
    clear hc14
    go_wp2_with fail
    refine wiq ?_
    repeat (go_big_quiet_step (fail))
    refine wpQuiet_nil ?_
    intro w5 F5
    clear k14 q0 dd0
    go_wp2_with fail
    exact ⟨⟨k+1,by omega,by go_num,FL.trans F5,fun i z hi hz=>by
     by_cases e:i=k
     ·subst e;rw [HYY.out] at hz;cases hz;exact hyk
     ·exact h1 i z (by omega) hz⟩,by simp [intOf];omega⟩
   have g1:decide (y.k<it.k)=false:=by simpa using hyk
   have gk:decide ((k:Int)<x.l.length)=true:=by simp;omega
   have hn:=q9 (q6k (x:=it) (by omega) h1 (fun z hz=>by rw [HYY.out] at hz;cases hz;exact hyk))
   clear hc14
   go_wp2_with fail
   refine wiq ?_
   repeat (go_big_quiet_step (fail))
   refine wpQuiet_nil ?_
   intro w5 F5
   clear k14 q0 dd0 g1 gk
   replace h:=h.up F5
   replace hs:=hs.up F5
   replace ob:=ob.up F5
   replace F0:=F0.trans F5
   have hbl:=h.lt
   have hc14:=(qw h).2.2.2.2.2.2.2.2.2.2.2.2.2.2
   rw [hlv] at hc14
   have c14:=hc14
   clear hc14
   go_wp2_with fail
   have HS:=q9 hs
   clear c14 hs
   refine qo (by kernel_rfl) ?_
   refine z6 [] w5 #[true,true,true,true,true,true,true,true,true,true,true,true,true,true,true,true,true,true,false,false,false] 18 3 rfl ?_
   refine lpq [true,true,true,true,true,true,true,false,true,false,false,true,true,true,true,true,true,false,false,false,false] 4 ((Fr.refl _ w5).drew) ?_
   apply qg
   refine ⟨fun wf Ff=>?_,?_⟩
   ·obtain ⟨-,-,-,-,-,-,-,-,-,-,-,-,-,-,c14⟩:=qw (h.up Ff)
    have k14:=qb c14
    have q0:=qb ((ob.up Ff).cell (i:=0) rfl)
    have q1:=qb ((ob.up Ff).cell (i:=1) rfl)
    have q2:=qb ((ob.up Ff).cell (i:=2) rfl)
    clear c14
    simp only [sel]
    repeat (go_big_quiet_step (fail))
    exact wpQuiet_nil rfl
   have HS1:=q9 (Sq.take zh HS.out k (by omega))
   have HS2:=q9 (Sq.drop zh HS.out k (by omega))
   have HT:=q9 (show (x.l.take k).length<=1000/\(x.l.drop k).length<=1000/\q0b x.l it=x.l.take k++[it]++x.l.drop k from ⟨by simp;omega,by simp;omega,hn.out⟩)
   generalize x.l.take k=T1 at HS1 HT
   generalize x.l.drop k=T2 at HS2 HT
   refine ji [7,9] (by kernel_rfl) (by simp) (fun w10 F10 i hi o ho=>?_)
   have G:=(Fr.refl [] w5).drew.trans F10
   clear F10
   simp only [List.mem_cons,List.not_mem_nil,or_false] at hi
   rcases hi with rfl | rfl
   focus
    obtain rfl:=qi ho
    go_wp2_with (at_builtin;refine qp zh rfl _ _ 91 rfl Tryz.underlying91 itI rfl (B:=w5.heap.size) (.slice none 0 0) [] rfl ⟨rfl,.inl ⟨rfl,rfl⟩⟩ _ T1 rfl (HS1.out.up G) (by have:=HT.out;simp;omega) (by decide) G.size ?_;intro a21 c21 w21 r21 f21)
    rw [List.nil_append] at r21
    replace G:=G.trans f21
    clear f21
    refine ql ⟨G,?_⟩
    refine loq 9 (fun w11 F11=>?_)
    have r11:=qm r21 F11
    replace G:=G.trans F11
    clear r21 F11
    go_wp2_with fail
    have F12:=(Fr.refl [] w11).alloc (.cells #[.int .i64 it.k,.int .i64 it.v,.int .i64 it.d] 99)
    have B12:=Go.heap_alloc_new w11 (.cells #[.int .i64 it.k,.int .i64 it.v,.int .i64 it.d] 99)
    have r12:=qm r11 F12
    replace G:=G.trans F12
    clear r11 F12 ho
    refine ql ⟨G,?_⟩
    refine loq 10 (fun w13 F13=>?_)
    have r22:=qm r12 F13
    have B22:=F13.heap B12 (by simp)
    replace G:=G.trans F13
    clear r12 B12 F13
   rotate_left
   focus
    obtain rfl:=qi ho
    go_wp2_with fail
    have F12:=(Fr.refl [] w10).alloc (.cells #[.int .i64 it.k,.int .i64 it.v,.int .i64 it.d] 99)
    have B12:=Go.heap_alloc_new w10 (.cells #[.int .i64 it.k,.int .i64 it.v,.int .i64 it.d] 99)
    replace G:=G.trans F12
    clear F12 ho
    refine ql ⟨G,?_⟩
    refine loq 7 (fun w11 F11=>?_)
    have B13:=F11.heap B12 (by simp)
    replace G:=G.trans F11
    clear B12 F11
    go_wp2_with (at_builtin;refine qp zh rfl _ _ 91 rfl Tryz.underlying91 itI rfl (B:=w5.heap.size) (.slice none 0 0) [] rfl ⟨rfl,.inl ⟨rfl,rfl⟩⟩ _ T1 rfl (HS1.out.up G) (by have:=HT.out;simp;omega) (by decide) G.size ?_;intro a21 c21 w21 r21 f21)
    rw [List.nil_append] at r21
    have B21:=Fr.heap f21 B13 (by simp [Value.ownBlock])
    replace G:=G.trans f21
    clear f21 B13
    refine ql ⟨G,?_⟩
    refine loq 10 (fun w13 F13=>?_)
    have r22:=qm r21 F13
    have B22:=F13.heap B21 (by simp)
    replace G:=G.trans F13
    clear r21 B21 F13
   rotate_left
   all_goals
    go_wp2_with (at_builtin;refine qp zh rfl _ _ 91 rfl Tryz.underlying91 itI rfl (B:=w5.heap.size) _ T1 rfl r22 _ [it] rfl (Sq.block B22 rfl rfl (Nat.le_refl _) (by simp [maxLen])) (by have:=HT.out;simp;omega) (by decide) G.size ?_;intro a23 c23 w23 r23 f23;generalize hT3:T1++[it]=T3 at r23 ⊢)
    replace G:=G.own f23 (z8 r22)
    clear f23 r22 B22
    refine ql ⟨G,?_⟩
    refine loq 17 (fun w14 F14=>?_)
    have r24:=qm r23 F14
    replace G:=G.trans F14
    clear r23 F14
    go_wp2_with (at_builtin;refine qp zh rfl _ _ 91 rfl Tryz.underlying91 itI rfl (B:=w5.heap.size) _ T3 rfl r24 _ T2 rfl (HS2.out.up G) (by have:=HT.out;rw [<- hT3];simp;omega) (by decide) G.size ?_;intro a25 c25 w25 r25 f25;generalize hT4:T3++T2=T4 at r25 ⊢)
    replace G:=G.own f25 (z8 r24)
    clear f25 r24
    refine ql ⟨G,?_⟩
    refine qx (k:=18) rfl (by kernel_rfl) (fun w15 F15=>?_)
    have r26:=qm r25 F15
    replace G:=G.trans F15
    clear r25 F15
    have h26:=h.up G
    have z26:=h26.frozen
    obtain ⟨-,-,-,-,-,-,-,-,-,-,-,-,-,-,c14⟩:=qw h26
    go_wp2_with fail
    go_end0
    have hlt26:b<w5.heap.size:=h.lt
    have e26:q0b x.l it=T4:=by rw [HT.out.2.2,hT3,hT4]
    rw [<- e26] at r26 ⊢
    refine ⟨rfl,⟨_,Ob.set h26 (i:=14) _,(Sq.own r26).kept (Fr.setCell (S:=[b]) _ (by simp)) (fun g hg hi=>?_),fun g hg=>qh F0.size (z8 r26 g hg)⟩,(F0.mono).trans ((G.mono).trans (Fr.setCell _ (by simp)))⟩
    have:=z8 r26 g hg
    simp at hi
    omega
  ·obtain rfl:k=x.l.length:=by omega
   have gk:decide (((x.l.length:Nat):Int)<x.l.length)=false:=by simp
   have hn:=q9 (q6k (x:=it) (Nat.le_refl _) h1 (fun z hz=>by simp at hz))
   have k14:=qb hc14
   clear hc14
   go_wp2_with fail
   refine wiq ?_
   repeat (go_big_quiet_step (fail))
   refine wpQuiet_nil ?_
   intro w5 F5
   clear k14 gk
   replace h:=h.up F5
   replace hs:=hs.up F5
   replace ob:=ob.up F5
   replace F0:=F0.trans F5
   have hbl:=h.lt
   have hc14:=(qw h).2.2.2.2.2.2.2.2.2.2.2.2.2.2
   rw [hlv] at hc14
   have c14:=hc14
   clear hc14
   go_wp2_with fail
   have HS:=q9 hs
   clear c14 hs
   refine qo (by kernel_rfl) ?_
   refine z6 [] w5 #[true,true,true,true,true,true,true,true,true,true,true,true,true,true,true,true,true,true,false,false,false] 18 3 rfl ?_
   refine lpq [true,true,true,true,true,true,true,false,true,false,false,true,true,true,true,true,true,false,false,false,false] 4 ((Fr.refl _ w5).drew) ?_
   apply qg
   refine ⟨fun wf Ff=>?_,?_⟩
   ·obtain ⟨-,-,-,-,-,-,-,-,-,-,-,-,-,-,c14⟩:=qw (h.up Ff)
    have k14:=qb c14
    have q0:=qb ((ob.up Ff).cell (i:=0) rfl)
    have q1:=qb ((ob.up Ff).cell (i:=1) rfl)
    have q2:=qb ((ob.up Ff).cell (i:=2) rfl)
    clear c14
    simp only [sel]
    repeat (go_big_quiet_step (fail))
    exact wpQuiet_nil rfl
   have HS1:=HS
   rw [List.take_length,List.drop_length] at hn
   have HT:=q9 (show x.l.length<=1000/\([]:List It).length<=1000/\q0b x.l it=x.l++[it]++[] from ⟨hl,by simp,hn.out⟩)
   have hcm:cap - x.l.length<=maxLen:=by omega
   generalize (if cap=x.l.length then a else Option.map (fun y=>y.add (x.l.length * 3)) a)=a2
   generalize cap - x.l.length=c2 at hcm ⊢
   have HS2:=q9 (Sq.empty (f:=fT) w5 a2 hcm)
   refine ji [7,9] (by kernel_rfl) (by simp) (fun w10 F10 i hi o ho=>?_)
   have G:=(Fr.refl [] w5).drew.trans F10
   clear F10
   simp only [List.mem_cons,List.not_mem_nil,or_false] at hi
   rcases hi with rfl | rfl
   focus
    obtain rfl:=qi ho
    go_wp2_with (at_builtin;refine qp zh rfl _ _ 91 rfl Tryz.underlying91 itI rfl (B:=w5.heap.size) (.slice none 0 0) [] rfl ⟨rfl,.inl ⟨rfl,rfl⟩⟩ _ x.l rfl (HS1.out.up G) (by have:=HT.out;simp;omega) (by decide) G.size ?_;intro a21 c21 w21 r21 f21)
    rw [List.nil_append] at r21
    replace G:=G.trans f21
    clear f21
    refine ql ⟨G,?_⟩
    refine loq 9 (fun w11 F11=>?_)
    have r11:=qm r21 F11
    replace G:=G.trans F11
    clear r21 F11
    go_wp2_with fail
    have F12:=(Fr.refl [] w11).alloc (.cells #[.int .i64 it.k,.int .i64 it.v,.int .i64 it.d] 99)
    have B12:=Go.heap_alloc_new w11 (.cells #[.int .i64 it.k,.int .i64 it.v,.int .i64 it.d] 99)
    have r12:=qm r11 F12
    replace G:=G.trans F12
    clear r11 F12 ho
    refine ql ⟨G,?_⟩
    refine loq 10 (fun w13 F13=>?_)
    have r22:=qm r12 F13
    have B22:=F13.heap B12 (by simp)
    replace G:=G.trans F13
    clear r12 B12 F13
   rotate_left
   focus
    obtain rfl:=qi ho
    go_wp2_with fail
    have F12:=(Fr.refl [] w10).alloc (.cells #[.int .i64 it.k,.int .i64 it.v,.int .i64 it.d] 99)
    have B12:=Go.heap_alloc_new w10 (.cells #[.int .i64 it.k,.int .i64 it.v,.int .i64 it.d] 99)
    replace G:=G.trans F12
    clear F12 ho
    refine ql ⟨G,?_⟩
    refine loq 7 (fun w11 F11=>?_)
    have B13:=F11.heap B12 (by simp)
    replace G:=G.trans F11
    clear B12 F11
    go_wp2_with (at_builtin;refine qp zh rfl _ _ 91 rfl Tryz.underlying91 itI rfl (B:=w5.heap.size) (.slice none 0 0) [] rfl ⟨rfl,.inl ⟨rfl,rfl⟩⟩ _ x.l rfl (HS1.out.up G) (by have:=HT.out;simp;omega) (by decide) G.size ?_;intro a21 c21 w21 r21 f21)
    rw [List.nil_append] at r21
    have B21:=Fr.heap f21 B13 (by simp [Value.ownBlock])
    replace G:=G.trans f21
    clear f21 B13
    refine ql ⟨G,?_⟩
    refine loq 10 (fun w13 F13=>?_)
    have r22:=qm r21 F13
    have B22:=F13.heap B21 (by simp)
    replace G:=G.trans F13
    clear r21 B21 F13
   rotate_left
   all_goals
    go_wp2_with (at_builtin;refine qp zh rfl _ _ 91 rfl Tryz.underlying91 itI rfl (B:=w5.heap.size) _ x.l rfl r22 _ [it] rfl (Sq.block B22 rfl rfl (Nat.le_refl _) (by simp [maxLen])) (by have:=HT.out;simp;omega) (by decide) G.size ?_;intro a23 c23 w23 r23 f23;generalize hT3:x.l++[it]=T3 at r23 ⊢)
    replace G:=G.own f23 (z8 r22)
    clear f23 r22 B22
    refine ql ⟨G,?_⟩
    refine loq 17 (fun w14 F14=>?_)
    have r24:=qm r23 F14
    replace G:=G.trans F14
    clear r23 F14
    go_wp2_with (at_builtin;refine qp zh rfl _ _ 91 rfl Tryz.underlying91 itI rfl (B:=w5.heap.size) _ T3 rfl r24 _ [] rfl (HS2.out.up G) (by have:=HT.out;rw [<- hT3];simp;omega) (by decide) G.size ?_;intro a25 c25 w25 r25 f25;generalize hT4:T3++([]:List It)=T4 at r25 ⊢)
    replace G:=G.own f25 (z8 r24)
    clear f25 r24
    refine ql ⟨G,?_⟩
    refine qx (k:=18) rfl (by kernel_rfl) (fun w15 F15=>?_)
    have r26:=qm r25 F15
    replace G:=G.trans F15
    clear r25 F15
    have h26:=h.up G
    have z26:=h26.frozen
    obtain ⟨-,-,-,-,-,-,-,-,-,-,-,-,-,-,c14⟩:=qw h26
    go_wp2_with fail
    go_end0
    have hlt26:b<w5.heap.size:=h.lt
    have e26:q0b x.l it=T4:=by rw [HT.out.2.2,hT3,hT4]
    rw [<- e26] at r26 ⊢
    refine ⟨rfl,⟨_,Ob.set h26 (i:=14) _,(Sq.own r26).kept (Fr.setCell (S:=[b]) _ (by simp)) (fun g hg hi=>?_),fun g hg=>qh F0.size (z8 r26 g hg)⟩,(F0.mono).trans ((G.mono).trans (Fr.setCell _ (by simp)))⟩
    have:=z8 r26 g hg
    simp at hi
    omega
theorem q4y (cs:List It) {j:Nat} {u:Value} (h:(cs.flatMap fT)[j]? = some u):∃ c,cs[j / 3]? = some c/\(fT c)[j % 3]? = some u:=by
 have hj:=(List.getElem?_eq_some_iff.1 h).1
 rw [zh.flat] at hj
 have hi:j / 3<cs.length:=by omega
 refine ⟨cs[j / 3],List.getElem?_eq_getElem hi,?_⟩
 have e:=zh.at (xs:=cs) (i:=j / 3) (j:=j % 3) (List.getElem?_eq_getElem hi) (by omega)
 rw [show j / 3 * 3+j % 3=j by omega] at e
 rw [<- e];exact h
theorem qau {w:World} {g n cap m:Nat} {cs:List It} {x:It} {cur:Array Value} {T:TypeId} (h:Sq fT w (.slice (some ⟨g,0,none⟩) n cap) cs) (hh:w.heap[g]? = some (.cells cur T (0,0))) (hx:cs[m]? = some x) (y:It) :
  Sq fT (((w.setCell ⟨g,m * 3,none⟩ (.int .i64 y.k)).setCell ⟨g,m * 3+1,none⟩ (.int .i64 y.v)).setCell ⟨g,m * 3+2,none⟩ (.int .i64 y.d)) (.slice (some ⟨g,0,none⟩) n cap) (cs.set m y):=by
 obtain ⟨-,g',off',e',d2⟩:=Sq.cell zh h hx
 obtain ⟨a',cap',e,h1,h2,h3⟩:=h
 simp only [Value.slice.injEq] at e
 obtain ⟨rfl,rfl,rfl⟩:=e
 have hm:=(List.getElem?_eq_some_iff.1 hx).1
 simp only [Option.some.injEq,Addr.mk.injEq] at e'
 obtain ⟨rfl,rfl,-⟩:=e'
 have hc2:=d2 2 (.int .i64 x.d) rfl
 rw [cell_of_row _ _ _ _ _ _ hh,Nat.zero_add] at hc2
 have hlt:m * 3+2<cur.size:=(Array.getElem?_eq_some_iff.1 hc2).1
 have hh':=heap_setCell_same _ g (m * 3+2) _ T (.int .i64 y.d) (heap_setCell_same _ g (m * 3+1) _ T (.int .i64 y.v) (heap_setCell_same w g (m * 3) cur T (.int .i64 y.k) hh))
 refine ⟨_,cap,by simp,by simpa using h1,h2,.inr ⟨g,0,rfl,(Array.getElem?_eq_some_iff.1 hh').1,fun j u hu=>?_⟩⟩
 rw [cell_of_row _ _ _ _ _ _ hh',Nat.zero_add]
 obtain ⟨c,hc,hu⟩:=q4y _ hu
 rcases h3 with h0 | ⟨g2,o2,e2,-,hall⟩
 ·omega
 simp only [Option.some.injEq,Addr.mk.injEq] at e2
 obtain ⟨rfl,rfl,-⟩:=e2
 have ej:j=j / 3 * 3+j % 3:=by omega
 have h3:j % 3<3:=Nat.mod_lt _ (by decide)
 by_cases hjm:j / 3=m
 ·rw [hjm,List.getElem?_set_self hm] at hc
  obtain rfl:=qi hc
  have h4:j % 3=0\/j % 3=1\/j % 3=2:=by omega
  rw [hjm] at ej
  rcases h4 with h4 | h4 | h4
  ·rw [h4] at hu ej
   rw [Nat.add_zero] at ej
   rw [Array.getElem?_setIfInBounds_ne (by omega),Array.getElem?_setIfInBounds_ne (by omega),ej,Array.getElem?_setIfInBounds_self_of_lt (by omega)]
   exact hu
  ·rw [h4] at hu ej
   rw [Array.getElem?_setIfInBounds_ne (by omega),ej,Array.getElem?_setIfInBounds_self_of_lt (by simp;omega)]
   exact hu
  ·rw [h4] at hu ej
   rw [ej,Array.getElem?_setIfInBounds_self_of_lt (by simp;omega)]
   exact hu
 ·rw [List.getElem?_set_ne (fun e=>hjm e.symm)] at hc
  rw [Array.getElem?_setIfInBounds_ne (by omega),Array.getElem?_setIfInBounds_ne (by omega),Array.getElem?_setIfInBounds_ne (by omega)]
  have:=hall j u (by rw [ej];exact (zh.at hc h3).trans hu)
  rwa [cell_of_row _ _ _ _ _ _ hh,Nat.zero_add] at this
theorem Ug {l:List It} {key:Int} {i:Nat} (h:Xx l key=some i):i<l.length:=by
 unfold Xx at h
 rw [List.findIdx?_eq_some_iff_getElem] at h
 exact h.1
theorem q9h (x:Lok) (it:It) (i b:Nat) (w:World) (hN:Xx x.l it.k=some i) (hl:x.l.length<=1000) (h:xu w b x) (hs:Sq fT w x.lv x.l) (hb:b∉x.lv.ownBlock.toList) :
  Calls Tryz.prog 106 #[.pointer (some ⟨b,0,none⟩),.agg #[.int .i64 it.k,.int .i64 it.v,.int .i64 it.d]] w fun e w'=>e = .returned (.tuple #[])/\(∃ lv',xu w' b { x with l:=x.l.set i it,lv:=lv' } /\ Sq fT w' lv' (x.l.set i it)/\∀ g,g∈lv'.ownBlock.toList->w.heap.size<=g)/\Fr [b] w w':=by
 obtain ⟨a,cap,hlv,hcap,hmax,-⟩:=id hs
 have hil:=Ug hN
 have F0:=(Fr.refl [] w).alloc (.cells #[.int .i64 it.k,.int .i64 it.v,.int .i64 it.d] 99)
 have ob:=Ob.new w 99 #[.int .i64 it.k,.int .i64 it.v,.int .i64 it.d]
 have hi:=Uh x it.k b _ hl (h.up F0) (hs.up F0)
 rw [show J2 x.l it.k=(i:Int) by unfold J2;rw [hN]] at hi
 have HI:=q9 hi
 clear hi
 have hbw:=h.lt
 go_enter Tryz.func106,Tryz.ntmps106
 go_wp2_with fail
 refine HI.out.mono ?_;rintro e _ ⟨rfl,rfl⟩
 clear HI
 replace h:=h.up F0
 replace hs:=hs.up F0
 have hwl:w.heap.size<(w.alloc (.cells #[.int .i64 it.k,.int .i64 it.v,.int .i64 it.d] 99)).heap.size:=by simp
 generalize (w.alloc (.cells #[.int .i64 it.k,.int .i64 it.v,.int .i64 it.d] 99))=w1 at *
 have hc14:=(qw h).2.2.2.2.2.2.2.2.2.2.2.2.2.2
 rw [hlv] at hs hb hc14
 have gi:decide ((i:Int)≥0)=true:=by simp
 go_wp2_with (at_builtin;refine qp zh rfl _ _ 91 rfl Tryz.underlying91 itI rfl (B:=w1.heap.size) (.slice none 0 0) [] rfl ⟨rfl,.inl ⟨rfl,rfl⟩⟩ _ x.l rfl hs (by simp only [List.length_nil];omega) (by decide) (Nat.le_refl _) ?_;intro a7 c7 w7 r7 F7;rw [List.nil_append] at r7;have h7:=Ob.kept h F7 (by simp [Value.ownBlock]);have ob7:=Ob.kept ob F7 (by simp [Value.ownBlock]);have z:=h7.frozen;have c14:=(qw h7).2.2.2.2.2.2.2.2.2.2.2.2.2.2)
 have hn7:=jd r7 h7 (by decide)
 have F8:Fr [b] w7 (w7.setCell ⟨b,14,none⟩ (.slice a7 x.l.length c7)):=Fr.setCell (b:=b) (i:=14) _ (by simp)
 have h8:xu (w7.setCell ⟨b,14,none⟩ (.slice a7 x.l.length c7)) b { x with lv:=(.slice a7 x.l.length c7) }:=Ob.set h7 (i:=14) (.slice a7 x.l.length c7)
 have r8:=kx r7 F8 (fun g hg hi=>by rw [List.mem_singleton.1 hi] at hg;exact hn7 (by simp [hg]))
 have hbne:w.heap.size≠b:=by omega
 have ob8:=ob7.kept F8 (by simpa using hbne)
 have G8:Fr [b] w (w7.setCell ⟨b,14,none⟩ (.slice a7 x.l.length c7)):=((F0.mono).trans (F7.mono (by simp [Value.ownBlock]))).trans F8
 generalize (w7.setCell ⟨b,14,none⟩ (.slice a7 x.l.length c7))=w8 at *
 have sr8:=Sq.own r8
 have hrb:=z8 r8
 rcases r8.2 with ⟨e1,-⟩ | ⟨g,cap2,cur,e1,hg1,hh,hc1,hc2,hsz,-⟩
 ·simp only [Value.slice.injEq] at e1
  omega
 simp only [Value.slice.injEq] at e1
 obtain ⟨rfl,-,rfl⟩:=e1
 have hgb:g≠b:=by intro e;exact hn7 (by simp [Value.ownBlock,e])
 have hx:x.l[i]? = some x.l[i]:=List.getElem?_eq_getElem hil
 have HX:=q9 hx
 clear h7 ob7 z c14 hc14 F7 r7 hn7 F8 r8 hx hs ob h gi
 refine qo (by kernel_rfl) ?_
 refine z6 [] w8 #[true,true,true,true,true,true,false,false] 6 2 rfl ?_
 refine lpq [true,true,true,true,true,true,false,false] 0 ((Fr.refl _ w8).drew) ?_
 apply qg
 refine ⟨fun wf Ff=>?_,?_⟩
 ·have c14:=(qw (h8.up Ff)).2.2.2.2.2.2.2.2.2.2.2.2.2.2
  have k14:=qb c14
  have q0:=qb ((ob8.up Ff).cell (i:=0) rfl)
  have q1:=qb ((ob8.up Ff).cell (i:=1) rfl)
  have q2:=qb ((ob8.up Ff).cell (i:=2) rfl)
  clear c14
  simp only [sel]
  repeat (go_big_quiet_step (fail))
  exact wpQuiet_nil rfl
 refine qx (k:=6) rfl (by kernel_rfl) (fun w9 F9=>?_)
 have E9:=(Fr.refl [] w8).drew.trans F9
 have h9:=h8.up E9
 have hh9:=E9.heap hh (by simp)
 have sr9:=sr8.up E9
 have G9:=G8.then E9
 clear F9 E9 h8 hh sr8 G8 ob8
 have zg:∀ j,w9.frozen? ⟨g,j,none⟩=false:=fun j=>frozen_of_row _ _ _ _ _ hh9
 obtain ⟨g',off',e',d0,d1,d2⟩:=xk sr9 HX.out
 simp only [Option.some.injEq,Addr.mk.injEq] at e'
 obtain ⟨rfl,rfl,-⟩:=e'
 rw [Nat.zero_add] at d0 d1 d2
 have hS:=qau sr9 hh9 HX.out it
 have FS:Fr [g] w9 (((w9.setCell ⟨g,i * 3,none⟩ (.int .i64 it.k)).setCell ⟨g,i * 3+1,none⟩ (.int .i64 it.v)).setCell ⟨g,i * 3+2,none⟩ (.int .i64 it.d)):=Fr.setCell' (Fr.setCell' (Fr.setCell (b:=g) (i:=i * 3) _ (by simp)) (b:=g) (i:=i * 3+1) _ (by simp)) (b:=g) (i:=i * 3+2) _ (by simp)
 have hSG:=q9 (qc hS FS)
 clear hS FS
 go_wp2_with fail
 refine bodyPost_ret (v:=.tuple #[]) (by simp [results,Tryz.results106,go_sem]) rfl ?_
 refine ⟨rfl,⟨_,h9.kept hSG.out.2 (by simpa using hgb.symm),hSG.out.1,fun k hk=>qh F0.size (hrb k hk)⟩,?_⟩
 exact ⟨hSG.out.2.os.trans G9.os,hSG.out.2.tape.trans G9.tape,hSG.out.2.output.trans G9.output,qh G9.size hSG.out.2.size,fun k hk hn=>(hSG.out.2.block k (qj hk G9.size) (by simp;omega)).trans (G9.block k hk hn)⟩
theorem q2b (x:Lok) (it:It) (b:Nat) (w:World) (hl:x.l.length<=1000) (h:xu w b x) (hs:Sq fT w x.lv x.l) (hb:b∉x.lv.ownBlock.toList) :
  Calls Tryz.prog 106 #[.pointer (some ⟨b,0,none⟩),.agg #[.int .i64 it.k,.int .i64 it.v,.int .i64 it.d]] w fun e w'=>e = .returned (.tuple #[])/\(∃ lv',xu w' b { x with l:=q0y x.l it,lv:=lv' } /\ Sq fT w' lv' (q0y x.l it)/\∀ g,g∈lv'.ownBlock.toList->w.heap.size<=g)/\Fr [b] w w':=by
 cases hN:Xx x.l it.k with
 | none=>rw [q5v hN];exact q7c x it b w hN hl h hs hb
 | some i=>rw [q6e hN];exact q9h x it i b w hN hl h hs hb
def Lok.skips (x:Lok):Bool:=decide (x.most<Va x.s) || (match Xx x.l x.k with | some i=>decide (Va x.s<(x.l.getD i ⟨0,0,0⟩).v) | none=>false)
def Lok.seven (x:Lok):Lok:=if x.skips=true then ({ x with line:=7 }:Lok).on else { x with line:=7 }
theorem Wn (x:Lok) (hi:-1<=x.i/\x.i<=100) (b:Nat) (w:World) (hl:x.l.length<=1000) (h:xu w b x) (hs:Sq fT w x.lv x.l) (hb:b∉x.lv.ownBlock.toList) :
  Calls Tryz.prog 104 #[.pointer (some ⟨b,0,none⟩)] w fun e w'=>e = .returned (.tuple #[])/\xu w' b x.seven/\Fr [b] w w':=by
 generalize hy:x.seven=y
 have HY:=q9 hy
 clear hy
 obtain ⟨a,cap,hlv,hcap,hmax,-⟩:=id hs
 obtain ⟨c0,c1,c2,c3,c4,c5,c6,c7,c8,c9,c10,c11,c12,c13,c14⟩:=qw h
 have z:=h.frozen
 have hit:=Uh x x.k b w hl h hs
 rw [hlv] at c14
 go_enter Tryz.func104,Tryz.ntmps104
 go_wp2_with fail
 refine (V5 _ _).mono ?_;rintro e _ ⟨rfl,rfl⟩
 generalize hver:Va x.s=ver at *
 go_wp2_with fail
 refine hit.mono ?_;rintro e _ ⟨rfl,rfl⟩
 clear hit
 have h7:xu (w.setCell ⟨b,8,none⟩ (.int .i64 7)) b { x with line:=7 }:=Ob.set h (i:=8) (.int .i64 7)
 have F7:Fr [b] w (w.setCell ⟨b,8,none⟩ (.int .i64 7)):=Fr.setCell (b:=b) (i:=8) _ (by simp)
 have hnx:=Qm { x with line:=7 } hi b _ h7
 have HX:=q9 hnx
 clear hnx
 by_cases e1:x.most<ver
 ·have hn:y=({ x with line:=7 }:Lok).on:=by rw [<- HY.out];unfold Lok.seven Lok.skips;rw [hver];simp [e1]
  subst hn
  have g1:decide (ver>x.most)=true:=by simpa using e1
  have HV:=q9 hver
  clear hver e1 h hs h7
  generalize J2 x.l x.k=ii at *
  go_wp2_with fail
  refine HX.out.mono ?_;rintro e w5 ⟨rfl,h5,F5⟩
  go_wp2_with fail
  go_end0
  exact ⟨rfl,h5,F7.trans F5⟩
 ·have g1:decide (ver>x.most)=false:=by simpa using e1
  cases hN:Xx x.l x.k with
  | none =>
   have hn:y = { x with line:=7 }:=by rw [<- HY.out];unfold Lok.seven Lok.skips;rw [hver,hN];simp [e1]
   subst hn
   rw [show J2 x.l x.k = -1 by unfold J2;rw [hN]]
   have HV:=q9 (qc hver hN)
   clear hver hN e1 h hs
   go_wp2_with fail
   go_end0
   exact ⟨rfl,h7,F7⟩
  | some i =>
   have hil:=Ug hN
   have hgx:x.l[i]? = some x.l[i]:=List.getElem?_eq_getElem hil
   have hgd:x.l.getD i ⟨0,0,0⟩=x.l[i]:=by rw [List.getD_eq_getElem?_getD,hgx];rfl
   rw [hlv] at hs
   obtain ⟨g,off,rfl,d0,d1,d2⟩:=xk hs hgx
   rw [show J2 x.l x.k=(i:Int) by unfold J2;rw [hN]]
   generalize hxi:x.l[i]=xi at *
   have gi:decide ((i:Int)≥0)=true:=by simp
   have hgb:g≠b:=by intro e;rw [hlv] at hb;exact hb (by simp [Value.ownBlock,e])
   by_cases e2:ver<xi.v
   ·have hn:y=({ x with line:=7 }:Lok).on:=by rw [<- HY.out];unfold Lok.seven Lok.skips;rw [hver,hN];simp only [hgd];simp [e2]
    subst hn
    have g2:decide (ver<xi.v)=true:=by simpa using e2
    have HV:=q9 (qc hver (qc hN (qc hgx hgd)))
    have HXI:=q9 hxi
    clear hver hN hgx hgd hxi e1 e2 h hs h7
    go_wp2_with fail
    refine HX.out.mono ?_;rintro e w5 ⟨rfl,h5,F5⟩
    go_wp2_with fail
    go_end0
    exact ⟨rfl,h5,F7.trans F5⟩
   ·have hn:y = { x with line:=7 }:=by rw [<- HY.out];unfold Lok.seven Lok.skips;rw [hver,hN];simp only [hgd];simp [e1,e2]
    subst hn
    have g2:decide (ver<xi.v)=false:=by simpa using e2
    have HV:=q9 (qc hver (qc hN (qc hgx hgd)))
    have HXI:=q9 hxi
    clear hver hN hgx hgd hxi e1 e2 h hs
    go_wp2_with fail
    go_end0
    exact ⟨rfl,h7,F7⟩
end Go.Proofs.YtppajakfaomkaaaGreatDoor.Mx
