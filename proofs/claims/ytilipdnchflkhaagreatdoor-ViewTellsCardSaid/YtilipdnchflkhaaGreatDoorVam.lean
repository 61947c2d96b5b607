/- Texts that this proof leans on, one behind the other: Seq, SeqB, Item, Kept, Grp, Chk. -/
import Derived.Test.YtilipdnchflkhaaGreatDoorVaa
import Derived.Test.YtilipdnchflkhaaGreatDoorVak
import Derived.Test.YtilipdnchflkhaaGreatDoorVal
import Derived.Deep.Upon
set_option linter.unusedVariables false
set_option linter.unusedSimpArgs false
set_option maxRecDepth 100000
set_option maxHeartbeats 12800000
namespace Go.Proofs.YtilipdnchflkhaaGreatDoor.Mx
open Go.RowKit Go.Proofs.YtilipdnchflkhaaGreatDoor.Ar
section
variable {α:Type} {f:α→List Value} {sz:Nat}
structure Lays (f:α→List Value) (sz:Nat):Prop where
 len:∀ x,(f x).length=sz
 one:∀ x,∀ u∈f x,u.oneCell'=true
 pos:0<sz
theorem Lays.flat (h:Lays f sz) (xs:List α):(xs.flatMap f).length=xs.length * sz:=by
 induction xs with
 | nil=>simp
 | cons x xs ih=>rw [List.flatMap_cons,List.length_append,ih,h.len,List.length_cons,Nat.succ_mul];omega
theorem Lays.ones (h:Lays f sz) (xs:List α):∀ u∈xs.flatMap f,u.oneCell'=true:=by
 intro u hu
 obtain ⟨x,-,hx⟩:=List.mem_flatMap.1 hu
 exact h.one x u hx
theorem Lays.parts (h:Lays f sz) (xs:List α) (k:Nat) (hk:k≤xs.length):(xs.take k).flatMap f++(xs.drop k).flatMap f=xs.flatMap f∧((xs.take k).flatMap f).length=k * sz :=
 ⟨by rw [← List.flatMap_append,List.take_append_drop],by rw [h.flat,List.length_take,Nat.min_eq_left hk]⟩
theorem Lays.take (h:Lays f sz) (xs:List α) (k:Nat) (hk:k≤xs.length):(xs.take k).flatMap f=(xs.flatMap f).take (k * sz):=by
 obtain ⟨e,l⟩:=h.parts xs k hk
 rw [← e];exact (List.take_left' l).symm
theorem Lays.drop (h:Lays f sz) (xs:List α) (k:Nat) (hk:k≤xs.length):(xs.drop k).flatMap f=(xs.flatMap f).drop (k * sz):=by
 obtain ⟨e,l⟩:=h.parts xs k hk
 rw [← e];exact (List.drop_left' l).symm
theorem Lays.at (h:Lays f sz) {xs:List α} {i j:Nat} {x:α} (hi:xs[i]? = some x) (hj:j<sz):(xs.flatMap f)[i * sz+j]? = (f x)[j]?:=by
 induction xs generalizing i with
 | nil=>simp at hi
 | cons y xs ih =>
  rw [List.flatMap_cons]
  cases i with
  | zero =>
   simp at hi;subst hi
   rw [Nat.zero_mul,Nat.zero_add,List.getElem?_append_left (by rw [h.len];exact hj)]
  | succ i =>
   rw [List.getElem?_append_right (by rw [h.len,Nat.succ_mul];omega),h.len,Nat.succ_mul,show i * sz+sz+j - sz=i * sz+j by omega]
   exact ih (by simpa using hi)
def Sq (f:α→List Value) (w:World) (v:Value) (xs:List α):Prop:=∃ a cap,v = .slice a xs.length cap∧xs.length≤cap∧cap≤maxLen ∧
 (xs.length=0∨∃ g off,a=some ⟨g,off,none⟩∧g<w.heap.size∧∀ j u,(xs.flatMap f)[j]? = some u→w.cell? ⟨g,off+j,none⟩=some u)
theorem Sq.kept {S:List Nat} {w w':World} {v:Value} {xs:List α} (h:Sq f w v xs) (k:Fr S w w') (hS:∀ g,g∈v.ownBlock.toList→g∉S):Sq f w' v xs:=by
 obtain ⟨a,cap,rfl,h1,h2,h3⟩:=h
 refine ⟨a,cap,rfl,h1,h2,h3.imp id ?_⟩
 rintro ⟨g,off,rfl,hg,hc⟩
 exact ⟨g,off,rfl,Nat.lt_of_lt_of_le hg k.size,fun j u hu=>k.cell (hc j u hu) (hS g (by simp [Value.ownBlock]))⟩
theorem Sq.up {w w':World} {v:Value} {xs:List α} (h:Sq f w v xs) (k:Fr [] w w'):Sq f w' v xs:=h.kept k (by simp)
theorem Sq.nil (w:World):Sq f w (.slice none 0 0) []:=⟨none,0,rfl,Nat.le_refl _,by simp [maxLen],.inl rfl⟩
theorem Sq.own {w:World} {B:Nat} {E:TypeId} {v:Value} {xs:List α} (h:w.ownsRow B E sz v xs.length (xs.flatMap f)):Sq f w v xs:=by
 obtain ⟨h1,h2⟩:=h
 rcases h2 with ⟨rfl,e0⟩ | ⟨g,cap,cur,rfl,-,hh,hc1,hc2,hs,ht⟩
 ·have h0:xs.length=0:=by first | exact e0 | omega
  exact ⟨none,0,by rw [h0],by omega,by simp [maxLen],.inl h0⟩
 ·refine ⟨_,cap,rfl,hc1,hc2,.inr ⟨g,0,rfl,(Array.getElem?_eq_some_iff.1 hh).1,fun j u hu=>?_⟩⟩
  rw [Nat.zero_add,cell_of_row _ _ _ _ _ _ hh]
  have hj:j<xs.length * sz:=by rw [← h1];exact (List.getElem?_eq_some_iff.1 hu).1
  rw [← ht,List.getElem?_take_of_lt hj] at hu
  simpa using hu
theorem Sq.cell (hL:Lays f sz) {w:World} {a:Option Addr} {n cap:Nat} {xs:List α} (h:Sq f w (.slice a n cap) xs) {i:Nat} {x:α} (hi:xs[i]? = some x) :
  n=xs.length∧∃ g off,a=some ⟨g,off,none⟩∧∀ j u,(f x)[j]? = some u→w.cell? ⟨g,off+i * sz+j,none⟩=some u:=by
 obtain ⟨a',cap',e,h1,h2,h3⟩:=h
 simp only [Value.slice.injEq] at e
 obtain ⟨rfl,rfl,rfl⟩:=e
 refine ⟨rfl,?_⟩
 have hlt:=(List.getElem?_eq_some_iff.1 hi).1
 rcases h3 with h0 | ⟨g,off,rfl,-,hc⟩
 ·omega
 ·refine ⟨g,off,rfl,fun j u hu=>?_⟩
  have hj:j<sz:=by have:=(List.getElem?_eq_some_iff.1 hu).1;rw [hL.len] at this;exact this
  rw [Nat.add_assoc]
  exact hc _ _ ((hL.at hi hj).trans hu)
theorem Sq.take (hL:Lays f sz) {w:World} {a:Option Addr} {n cap:Nat} {xs:List α} (h:Sq f w (.slice a n cap) xs) (k:Nat) (hk:k≤xs.length):Sq f w (.slice a k cap) (xs.take k):=by
 obtain ⟨a',cap',e,h1,h2,h3⟩:=h
 simp only [Value.slice.injEq] at e
 obtain ⟨rfl,rfl,rfl⟩:=e
 have hl:(xs.take k).length=k:=by simp [Nat.min_eq_left hk]
 refine ⟨a,cap,by rw [hl],by omega,h2,?_⟩
 rcases h3 with h0 | ⟨g,off,rfl,hg,hc⟩
 ·exact .inl (by omega)
 ·refine .inr ⟨g,off,rfl,hg,fun j u hu=>hc j u ?_⟩
  rw [hL.take xs k hk] at hu
  have hj:=(List.getElem?_eq_some_iff.1 hu).1
  rw [List.length_take] at hj
  rw [List.getElem?_take_of_lt (by omega)] at hu
  exact hu
theorem Sq.drop (hL:Lays f sz) {w:World} {g off n cap:Nat} {xs:List α} (h:Sq f w (.slice (some ⟨g,off,none⟩) n cap) xs) (k:Nat) (hk:k≤xs.length):Sq f w (.slice (some ⟨g,off+k * sz,none⟩) (xs.length - k) (cap - k)) (xs.drop k):=by
 obtain ⟨a',cap',e,h1,h2,h3⟩:=h
 simp only [Value.slice.injEq] at e
 obtain ⟨rfl,rfl,rfl⟩:=e
 have hl:(xs.drop k).length=xs.length - k:=by simp
 refine ⟨_,cap - k,by rw [hl],by omega,by omega,?_⟩
 rcases h3 with h0 | ⟨g',off',e,hg,hc⟩
 ·exact .inl (by omega)
 ·simp only [Option.some.injEq,Addr.mk.injEq] at e
  obtain ⟨rfl,rfl,-⟩:=e
  refine .inr ⟨g,off+k * sz,rfl,hg,fun j u hu=>?_⟩
  rw [hL.drop xs k hk,List.getElem?_drop] at hu
  rw [Nat.add_assoc]
  exact hc _ _ hu
theorem Sq.block {w:World} {b n c:Nat} {cs:Array Value} {T:TypeId} {xs:List α} (h:w.heap[b]? = some (.cells cs T (0,0))) (hx:xs.flatMap f=cs.toList) (hn:xs.length=n) (h1:n≤c) (h2:c≤maxLen):Sq f w (.slice (some ⟨b,0,none⟩) n c) xs:=by
 subst hn
 refine ⟨_,c,rfl,h1,h2,.inr ⟨b,0,rfl,(Array.getElem?_eq_some_iff.1 h).1,fun j u hu=>?_⟩⟩
 rw [cell_of_row _ _ _ _ _ _ h,Nat.zero_add]
 rw [hx] at hu
 simpa using hu
theorem Sq.empty (w:World) (a:Option Addr) {c:Nat} (h:c≤maxLen):Sq f w (.slice a 0 c) []:=⟨a,c,rfl,Nat.zero_le _,h,.inl rfl⟩
theorem addr_add (b o j:Nat):(⟨b,o,none⟩:Addr).add j=⟨b,o+j,none⟩:=by
 unfold Addr.add;split
 ·rename_i h;subst h;rfl
 ·rfl
theorem wpList_appSq {P:Program} {w:World} {ops:Array Oper} {rest:List Oper} {o:Oper} {a:Act} {Q:Exit→Act→World→Prop} (hL:Lays f sz) (hgd:o.guard=none) (s x:Operand) (t:TypeId)
  (ho:o.op = .call { callee:=.builtin .append,args:=#[s,x],argTypes:=#[t,t] }) {E:TypeId} {z:Value} {bytes:Nat} (ht:P.underlying t=some (.slice E)) (hi:(P.info? E).map (fun i=>(i.zero,i.size,i.bytes))=some (some z,sz,bytes)) (hzs:z.cells.size=sz)
  {B:Nat} (v:Value) (os:List α) (hs:a.eval s=v) (hown:w.ownsRow B E sz v os.length (os.flatMap f)) (xv:Value) (ps:List α) (hx:a.eval x=xv) (hp:Sq f w xv ps)
  (hl:os.length+ps.length≤1000000) (hb:bytes≤1000) (hbase:B≤w.heap.size)
  (h:∀ a' c' w',w'.ownsRow B E sz (.slice a' (os++ps).length c') (os++ps).length ((os++ps).flatMap f)→Fr v.ownBlock.toList w w'→wpList P ops Q rest (a.put o.dst (.slice a' (os++ps).length c')) w'):wpList P ops Q (o :: rest) a w:=by
 obtain ⟨ad,cap,rfl,hcap,hm,hc⟩:=hp
 obtain ⟨i,hi0,hz,hs0,hb0⟩:=info_parts hi
 have hbytes:(os.length+ps.length) * bytes≤140737488355328:=Nat.le_trans (Nat.mul_le_mul hl hb) (by decide)
 have go:∀ (ad:Addr),(∀ j u,(ps.flatMap f)[j]? = some u→w.cell? (ad.add j)=some u)→a.eval x = .slice (some ad) ps.length cap→wpList P ops Q (o :: rest) a w:=by
  intro ad hcell hx
  refine wpList_append_own_at w hgd s x t ho B E i _ sz bytes ht hi0 hz hs0 hb0 hzs hL.pos v os.length _ hs hown ad ps.length cap (ps.flatMap f) hx (hL.flat ps) hcell (hL.ones ps) (by unfold maxLen;omega) hbytes hbase fun v' w' h2 h3 _ _=>?_
  rw [← List.flatMap_append,← List.length_append] at h2
  obtain ⟨a',c',rfl,-,-⟩:=row_cell h2
  exact h a' c' w' h2 (fr_grown h3)
 have hnil:ps.length=0→wpList P ops Q (o :: rest) a w:=by
  intro h0
  obtain rfl:ps=[]:=List.eq_nil_of_length_eq_zero h0
  cases ad with
  | some ad=>exact go ad (fun j u hu=>by simp at hu) hx
  | none =>
   have hown':=hown
   obtain ⟨hxl,hv⟩:=hown
   have hle:∃ b0 c0,v = .slice b0 os.length c0∧os.length≤c0:=by
    rcases hv with ⟨rfl,e0⟩ | ⟨g,c0,cur,rfl,-,-,h1,-⟩
    ·have hx0:os.length=0:=by first | exact e0 | omega
     exact ⟨none,0,by rw [hx0],by omega⟩
    ·exact ⟨_,c0,rfl,by first | exact h1 | omega⟩
   obtain ⟨b0,c0,rfl,hle⟩:=hle
   refine wpList_plain hgd fun K hK=>?_
   have hr:=run_append_nothing (P:=P) w t t o.type E i ht hi0 b0 os.length c0 hle (.slice none 0 cap) (by rw [hs0];exact Src.ofNil w ht cap)
   unfold Oper.wp execOp
   have hx':a.eval x = .slice none 0 cap:=hx
   simp only [ho,resolve,invoke,builtin,Sem.run_bind,Sem.run_pure,Result.andThen_ok,List.map_toArray,List.map_cons,List.map_nil,hs,hx',hr]
   have h':=h b0 c0 w
   rw [List.append_nil] at h'
   exact hK _ _ (h' hown' (Fr.refl _ _))
 rcases hc with h0 | ⟨g,off,rfl,-,hcell⟩
 ·exact hnil h0
 ·exact go ⟨g,off,none⟩ (fun j u hu=>by rw [addr_add];exact hcell j u hu) hx
end
section
variable {α:Type} {f:α→List Value} {sz:Nat}
theorem wpList_appSqB {P:Program} {w:World} {ops:Array Oper} {rest:List Oper} {o:Oper} {a:Act} {Q:Exit→Act→World→Prop} (hL:Lays f sz) (hgd:o.guard=none) (s x:Operand) (t:TypeId)
  (ho:o.op = .call { callee:=.builtin .append,args:=#[s,x],argTypes:=#[t,t] }) {E:TypeId} {z:Value} {bytes:Nat} (ht:P.underlying t=some (.slice E)) (hi:(P.info? E).map (fun i=>(i.zero,i.size,i.bytes))=some (some z,sz,bytes)) (hzs:z.cells.size=sz)
  {B:Nat} (v:Value) (os:List α) (hs:a.eval s=v) (hown:w.ownsRow B E sz v os.length (os.flatMap f)) (xv:Value) (ps:List α) (hx:a.eval x=xv) (hp:Sq f w xv ps)
  (hl:os.length+ps.length≤1000000) (hb:bytes≤1000) (hbase:B≤w.heap.size)
  (h:∀ a' c' w',w'.ownsRow B E sz (.slice a' (os++ps).length c') (os++ps).length ((os++ps).flatMap f)→Fr v.ownBlock.toList w w'→(∀ g,g∈(Value.slice a' (os++ps).length c').ownBlock.toList→g∈v.ownBlock.toList∨g=w.heap.size)→wpList P ops Q rest (a.put o.dst (.slice a' (os++ps).length c')) w'):wpList P ops Q (o :: rest) a w:=by
 obtain ⟨ad,cap,rfl,hcap,hm,hc⟩:=hp
 obtain ⟨i,hi0,hz,hs0,hb0⟩:=info_parts hi
 have hbytes:(os.length+ps.length) * bytes≤140737488355328:=Nat.le_trans (Nat.mul_le_mul hl hb) (by decide)
 have go:∀ (ad:Addr),(∀ j u,(ps.flatMap f)[j]? = some u→w.cell? (ad.add j)=some u)→a.eval x = .slice (some ad) ps.length cap→wpList P ops Q (o :: rest) a w:=by
  intro ad hcell hx
  refine wpList_append_own_at w hgd s x t ho B E i _ sz bytes ht hi0 hz hs0 hb0 hzs hL.pos v os.length _ hs hown ad ps.length cap (ps.flatMap f) hx (hL.flat ps) hcell (hL.ones ps) (by unfold maxLen;omega) hbytes hbase fun v' w' h2 h3 _ h5=>?_
  rw [← List.flatMap_append,← List.length_append] at h2
  obtain ⟨a',c',rfl,-,-⟩:=row_cell h2
  exact h a' c' w' h2 (fr_grown h3) (fun g hg=>by
   rcases h5 with h5 | h5
   ·rw [h5] at hg;exact .inl hg
   ·rw [h5] at hg;simp at hg;exact .inr hg)
 have hnil:ps.length=0→wpList P ops Q (o :: rest) a w:=by
  intro h0
  obtain rfl:ps=[]:=List.eq_nil_of_length_eq_zero h0
  cases ad with
  | some ad=>exact go ad (fun j u hu=>by simp at hu) hx
  | none =>
   have hown':=hown
   obtain ⟨hxl,hv⟩:=hown
   have hle:∃ b0 c0,v = .slice b0 os.length c0∧os.length≤c0:=by
    rcases hv with ⟨rfl,e0⟩ | ⟨g,c0,cur,rfl,-,-,h1,-⟩
    ·have hx0:os.length=0:=by first | exact e0 | omega
     exact ⟨none,0,by rw [hx0],by omega⟩
    ·exact ⟨_,c0,rfl,by first | exact h1 | omega⟩
   obtain ⟨b0,c0,rfl,hle⟩:=hle
   refine wpList_plain hgd fun K hK=>?_
   have hr:=run_append_nothing (P:=P) w t t o.type E i ht hi0 b0 os.length c0 hle (.slice none 0 cap) (by rw [hs0];exact Src.ofNil w ht cap)
   unfold Oper.wp execOp
   have hx':a.eval x = .slice none 0 cap:=hx
   simp only [ho,resolve,invoke,builtin,Sem.run_bind,Sem.run_pure,Result.andThen_ok,List.map_toArray,List.map_cons,List.map_nil,hs,hx',hr]
   have h':=h b0 c0 w
   rw [List.append_nil] at h'
   exact hK _ _ (h' hown' (Fr.refl _ _) (fun g hg=>.inl hg))
 rcases hc with h0 | ⟨g,off,rfl,-,hcell⟩
 ·exact hnil h0
 ·exact go ⟨g,off,none⟩ (fun j u hu=>by rw [addr_add];exact hcell j u hu) hx
end
structure It where
 k:Int
 v:Int
 d:Int
deriving DecidableEq
def fT (x:It):List Value:=[.int .i64 x.k,.int .i64 x.v,.int .i64 x.d]
theorem fT_lays:Lays fT 3:=⟨fun _=>rfl,fun x u hu=>by simp [fT] at hu;rcases hu with rfl | rfl | rfl <;> rfl,by decide⟩
theorem itI:(Tryz.prog.info? 60).map (fun i=>(i.zero,i.size,i.bytes))=some (some (.agg #[.int .i64 0,.int .i64 0,.int .i64 0]),3,24):=by kernel_rfl
def gtT (y x:It):Bool:=decide (y.k>x.k) || ((y.k == x.k) && decide (y.v>x.v))
def posT (out:List It) (x:It):Nat→Nat
 | 0=>0
 | k+1=>if (out[k]?.any fun y=>gtT y x)=true then posT out x k else k+1
def insT (out:List It) (x:It):List It:=out.take (posT out x out.length)++[x]++out.drop (posT out x out.length)
def sortT (l:List It):List It:=l.foldl insT []
theorem posT_succ {out:List It} {x y:It} {j:Nat} (hy:out[j]? = some y):posT out x (j+1)=if gtT y x=true then posT out x j else j+1:=by simp only [posT,hy,Option.any_some]
theorem posT_le (out:List It) (x:It) (k:Nat):posT out x k≤k:=by
 induction k with
 | zero=>exact Nat.le_refl _
 | succ k ih=>unfold posT;split <;> omega
theorem insT_length (out:List It) (x:It):(insT out x).length=out.length+1:=by
 unfold insT
 have:=posT_le out x out.length
 simp;omega
theorem sortT_length (l:List It):(sortT l).length=l.length:=by
 unfold sortT
 suffices h:∀ (l out:List It),(l.foldl insT out).length=out.length+l.length by have:=h l [];simpa using this
 intro l
 induction l with
 | nil=>intro out;rfl
 | cons x l ih=>intro out;rw [List.foldl_cons,ih,insT_length,List.length_cons];omega
theorem it_cells {w:World} {a:Option Addr} {n cap i:Nat} {xs:List It} {x:It} (h:Sq fT w (.slice a n cap) xs) (hi:xs[i]? = some x) :
  ∃ g off,a=some ⟨g,off,none⟩∧w.cell? ⟨g,off+i * 3,none⟩=some (.int .i64 x.k)∧w.cell? ⟨g,off+i * 3+1,none⟩=some (.int .i64 x.v)∧w.cell? ⟨g,off+i * 3+2,none⟩=some (.int .i64 x.d):=by
 obtain ⟨-,g,off,rfl,hc⟩:=Sq.cell fT_lays h hi
 exact ⟨g,off,rfl,hc 0 _ rfl,hc 1 _ rfl,hc 2 _ rfl⟩
def SrtAt (w:World) (l:List It) (u x:Value) (wr:World):Prop:=∃ i,i≤l.length∧x = .int .i64 (i:Nat)∧wr.ownsRow w.heap.size 60 3 u (sortT (l.take i)).length ((sortT (l.take i)).flatMap fT)∧Fr [] w wr
def PosAt (wr:World) (out:List It) (x:It) (u:Value) (w':World):Prop:=∃ k,k≤out.length∧u = .int .i64 (k:Nat)∧Fr [] wr w'∧posT out x out.length=posT out x k
theorem sort_any (l:List It) (v:Value) (w:World) (hl:l.length≤1000) (h:Sq fT w v l) :
  Calls Tryz.prog 83 #[v] w fun e w'=>(∃ u,e = .returned u∧w'.ownsRow w.heap.size 60 3 u (sortT l).length ((sortT l).flatMap fT))∧Fr [] w w':=by
 obtain ⟨a,cap,rfl,hcap,hmax,-⟩:=id h
 go_enter Tryz.func83,Tryz.ntmps83
 go_wp2_with fail
 go_loopw [3,4] (SrtAt w l) (fun _ x _=>l.length - (intOf x).toNat)
 case atStart=>exact ⟨0,by omega,rfl,⟨rfl,.inl ⟨rfl,rfl⟩⟩,Fr.refl _ _⟩
 case round =>
  obtain ⟨i,hi,rfl,hr,F⟩:=hrel
  by_cases hlt:i<l.length
  ·obtain ⟨x,hx⟩:∃ x,l[i]? = some x:=⟨l[i],List.getElem?_eq_getElem hlt⟩
   have hso:=sortT_length (l.take i)
   have hnx:sortT (l.take (i+1))=insT (sortT (l.take i)) x:=by
    unfold sortT
    rw [List.take_add_one,hx,Option.toList_some,List.foldl_append];rfl
   generalize sortT (l.take i)=out at *
   have hol:out.length≤1000:=by rw [hso,List.length_take];omega
   obtain ⟨ao,co,rfl,hco,hcm,-⟩:=id (Sq.own (f:=fT) hr)
   have HO:=Sq.own (f:=fT) hr
   have HN:=Lib.hid (And.intro hnx hol)
   clear hnx hso
   go_wp2_with fail
   go_loopw [5] (PosAt wr out x) (fun u _=>(intOf u).toNat)
   case atStart=>exact ⟨out.length,Nat.le_refl _,rfl,Fr.refl _ _,rfl⟩
   case round =>
    obtain ⟨k,hk,rfl,F2,hp⟩:=hrel
    rcases k with _ | j
    ·obtain ⟨gl,ol,rfl,-,-,-⟩:=it_cells (h.up (F.trans F2)) hx
     by_cases h00:out.length=0
     ·obtain rfl:out=[]:=List.eq_nil_of_length_eq_zero h00
      go_wp2_with fail
      refine wi ?_
      repeat (go_big_quiet_step (fail))
      refine wpQuiet_nil ?_
      intro w5 F5
      go_wp2_with fail
      have FW:=(F.trans F2).trans F5
      have HO5:=HO.up (F2.trans F5)
      have HL5:=Lib.hid (h.up FW)
      refine wp_region_env (by kernel_rfl) [] (fun w2 F2'=>?_)
      refine ep [true,true,true,false,true,true,true,true,false,false,true,true,true,false,false] 5 F2' ?_
      apply Exists.intro
      refine ⟨fun wf Ff=>?_,?_⟩
      ·obtain ⟨gl',ol',hgl,x0,x1,x2⟩:=it_cells (HL5.out.up Ff) hx
       simp only [Option.some.injEq,Addr.mk.injEq] at hgl
       obtain ⟨rfl,rfl,-⟩:=hgl
       have j0:=In.cell x0
       have j1:=In.cell x1
       have j2:=In.cell x2
       clear x0 x1 x2
       simp only [sel]
       repeat (go_big_quiet_step (fail))
       exact wpQuiet_nil rfl
      have HS1:=Lib.hid (Sq.empty (f:=fT) w5 ao hcm)
      have HS2:=Lib.hid (Sq.empty (f:=fT) w5 ao hcm)
      have HT:=Lib.hid (show ([]:List It).length≤1000∧([]:List It).length≤1000∧insT [] x=[]++[x]++[] from ⟨by simp,by simp,rfl⟩)
      refine env_ready [3,8] (by kernel_rfl) (by simp) (fun w10 F10 m hm o ho=>?_)
      have G:=F2'.trans F10
      clear F10 F2'
      simp only [List.mem_cons,List.not_mem_nil,or_false] at hm
      rcases hm with rfl | rfl
      focus
       obtain rfl:=Option.some.inj ho
       have S1':=HS1.out.up G
       go_wp2_with (at_builtin;refine wpList_appSq fT_lays rfl _ _ 51 rfl Tryz.underlying51 itI rfl (B:=w5.heap.size) (.slice none 0 0) [] rfl ⟨rfl,.inl ⟨rfl,rfl⟩⟩ _ ([]:List It) rfl S1' (by have:=HT.out;simp <;> omega) (by decide) G.size ?_;intro a21 c21 w21 r21 f21)
       rw [List.nil_append] at r21
       replace G:=G.trans f21
       clear f21 S1'
       refine nx_normal ⟨G,?_⟩
       refine eo 8 (fun w11 F11=>?_)
       have r11:=row_keeps r21 F11
       replace G:=G.trans F11
       clear r21 F11
       go_wp2_with fail
       have F12:=(Fr.refl [] w11).alloc (.cells #[.int .i64 x.k,.int .i64 x.v,.int .i64 x.d] 60)
       have B21:=Go.heap_alloc_new w11 (.cells #[.int .i64 x.k,.int .i64 x.v,.int .i64 x.d] 60)
       have r21:=row_keeps r11 F12
       replace G:=G.trans F12
       clear r11 F12 ho
      rotate_left
      focus
       obtain rfl:=Option.some.inj ho
       go_wp2_with fail
       have F12:=(Fr.refl [] w10).alloc (.cells #[.int .i64 x.k,.int .i64 x.v,.int .i64 x.d] 60)
       have B12:=Go.heap_alloc_new w10 (.cells #[.int .i64 x.k,.int .i64 x.v,.int .i64 x.d] 60)
       replace G:=G.trans F12
       clear F12 ho
       refine nx_normal ⟨G,?_⟩
       refine eo 3 (fun w11 F11=>?_)
       have B13:=F11.heap B12 (by simp)
       replace G:=G.trans F11
       clear B12 F11
       have S1':=HS1.out.up G
       go_wp2_with (at_builtin;refine wpList_appSq fT_lays rfl _ _ 51 rfl Tryz.underlying51 itI rfl (B:=w5.heap.size) (.slice none 0 0) [] rfl ⟨rfl,.inl ⟨rfl,rfl⟩⟩ _ ([]:List It) rfl S1' (by have:=HT.out;simp <;> omega) (by decide) G.size ?_;intro a21 c21 w21 r21 f21)
       rw [List.nil_append] at r21
       have B21:=Fr.heap f21 B13 (by simp [Value.ownBlock])
       replace G:=G.trans f21
       clear f21 B13 S1'
      rotate_left
      all_goals
       refine nx_normal ⟨G,?_⟩
       refine eo 9 (fun w13 F13=>?_)
       have r22:=row_keeps r21 F13
       have B22:=F13.heap B21 (by simp)
       replace G:=G.trans F13
       clear r21 B21 F13
       go_wp2_with (at_builtin;refine wpList_appSq fT_lays rfl _ _ 51 rfl Tryz.underlying51 itI rfl (B:=w5.heap.size) _ ([]:List It) rfl r22 _ [x] rfl (Sq.block B22 rfl rfl (Nat.le_refl _) (by simp [maxLen])) (by have:=HT.out;simp <;> omega) (by decide) G.size ?_;intro a23 c23 w23 r23 f23;generalize hT3:([]:List It)++[x]=T3 at r23 ⊢)
       replace G:=G.own f23 (row_base r22)
       clear f23 r22 B22
       refine nx_normal ⟨G,?_⟩
       refine eo 13 (fun w14 F14=>?_)
       have r24:=row_keeps r23 F14
       replace G:=G.trans F14
       clear r23 F14
       have S2':=HS2.out.up G
       go_wp2_with (at_builtin;refine wpList_appSq fT_lays rfl _ _ 51 rfl Tryz.underlying51 itI rfl (B:=w5.heap.size) _ T3 rfl r24 _ ([]:List It) rfl S2' (by have:=HT.out;rw [← hT3];simp <;> omega) (by decide) G.size ?_;intro a25 c25 w25 r25 f25;generalize hT4:T3++([]:List It)=T4 at r25 ⊢)
       replace G:=G.own f25 (row_base r24)
       clear f25 r24 S2'
       refine nx_normal ⟨G,?_⟩
       refine eo 14 (fun w15 F15=>?_)
       have r26:=row_keeps r25 F15
       replace G:=G.trans F15
       clear r25 F15
       go_wp2
       refine nx_normal ⟨G,?_⟩
       refine env_done (by kernel_rfl) (fun w16 F16=>?_)
       have r27:=row_keeps r26 F16
       replace G:=G.trans F16
       clear r26 F16
       have e26:sortT (l.take (i+1))=T4:=by rw [HN.out.1,HT.out.2.2,hT3,hT4]
       rw [← e26] at r27 ⊢
       have r28:=row_more r27 FW.size
       go_wp2
       exact ⟨⟨i+1,by omega,by go_num,r28,FW.trans G⟩,by simp [intOf];omega⟩
     obtain ⟨y,hy⟩:∃ y,out[0]? = some y:=⟨out[0],List.getElem?_eq_getElem (by omega)⟩
     obtain ⟨go,oo,rfl,-,-,-⟩:=it_cells HO hy
     go_wp2_with fail
     refine wi ?_
     repeat (go_big_quiet_step (fail))
     refine wpQuiet_nil ?_
     intro w5 F5
     go_wp2_with fail
     have FW:=(F.trans F2).trans F5
     have HO5:=HO.up (F2.trans F5)
     have HL5:=Lib.hid (h.up FW)
     refine wp_region_env (by kernel_rfl) [] (fun w2 F2'=>?_)
     refine ep [true,true,true,false,true,true,true,true,false,false,true,true,true,false,false] 5 F2' ?_
     apply Exists.intro
     refine ⟨fun wf Ff=>?_,?_⟩
     ·obtain ⟨gl',ol',hgl,x0,x1,x2⟩:=it_cells (HL5.out.up Ff) hx
      simp only [Option.some.injEq,Addr.mk.injEq] at hgl
      obtain ⟨rfl,rfl,-⟩:=hgl
      have j0:=In.cell x0
      have j1:=In.cell x1
      have j2:=In.cell x2
      clear x0 x1 x2
      simp only [sel]
      repeat (go_big_quiet_step (fail))
      exact wpQuiet_nil rfl
     have HS1:=Lib.hid (Sq.empty (f:=fT) w5 (some ⟨go,oo,none⟩) hcm)
     have HS2:=Lib.hid (HO5)
     have HT:=Lib.hid (show ([]:List It).length≤1000∧out.length≤1000∧insT out x=[]++[x]++out from ⟨by simp,HN.out.2,by unfold insT;rw [hp];rfl⟩)
     refine env_ready [3,8] (by kernel_rfl) (by simp) (fun w10 F10 m hm o ho=>?_)
     have G:=F2'.trans F10
     clear F10 F2'
     simp only [List.mem_cons,List.not_mem_nil,or_false] at hm
     rcases hm with rfl | rfl
     focus
      obtain rfl:=Option.some.inj ho
      have S1':=HS1.out.up G
      go_wp2_with (at_builtin;refine wpList_appSq fT_lays rfl _ _ 51 rfl Tryz.underlying51 itI rfl (B:=w5.heap.size) (.slice none 0 0) [] rfl ⟨rfl,.inl ⟨rfl,rfl⟩⟩ _ ([]:List It) rfl S1' (by have:=HT.out;simp <;> omega) (by decide) G.size ?_;intro a21 c21 w21 r21 f21)
      rw [List.nil_append] at r21
      replace G:=G.trans f21
      clear f21 S1'
      refine nx_normal ⟨G,?_⟩
      refine eo 8 (fun w11 F11=>?_)
      have r11:=row_keeps r21 F11
      replace G:=G.trans F11
      clear r21 F11
      go_wp2_with fail
      have F12:=(Fr.refl [] w11).alloc (.cells #[.int .i64 x.k,.int .i64 x.v,.int .i64 x.d] 60)
      have B21:=Go.heap_alloc_new w11 (.cells #[.int .i64 x.k,.int .i64 x.v,.int .i64 x.d] 60)
      have r21:=row_keeps r11 F12
      replace G:=G.trans F12
      clear r11 F12 ho
     rotate_left
     focus
      obtain rfl:=Option.some.inj ho
      go_wp2_with fail
      have F12:=(Fr.refl [] w10).alloc (.cells #[.int .i64 x.k,.int .i64 x.v,.int .i64 x.d] 60)
      have B12:=Go.heap_alloc_new w10 (.cells #[.int .i64 x.k,.int .i64 x.v,.int .i64 x.d] 60)
      replace G:=G.trans F12
      clear F12 ho
      refine nx_normal ⟨G,?_⟩
      refine eo 3 (fun w11 F11=>?_)
      have B13:=F11.heap B12 (by simp)
      replace G:=G.trans F11
      clear B12 F11
      have S1':=HS1.out.up G
      go_wp2_with (at_builtin;refine wpList_appSq fT_lays rfl _ _ 51 rfl Tryz.underlying51 itI rfl (B:=w5.heap.size) (.slice none 0 0) [] rfl ⟨rfl,.inl ⟨rfl,rfl⟩⟩ _ ([]:List It) rfl S1' (by have:=HT.out;simp <;> omega) (by decide) G.size ?_;intro a21 c21 w21 r21 f21)
      rw [List.nil_append] at r21
      have B21:=Fr.heap f21 B13 (by simp [Value.ownBlock])
      replace G:=G.trans f21
      clear f21 B13 S1'
     rotate_left
     all_goals
      refine nx_normal ⟨G,?_⟩
      refine eo 9 (fun w13 F13=>?_)
      have r22:=row_keeps r21 F13
      have B22:=F13.heap B21 (by simp)
      replace G:=G.trans F13
      clear r21 B21 F13
      go_wp2_with (at_builtin;refine wpList_appSq fT_lays rfl _ _ 51 rfl Tryz.underlying51 itI rfl (B:=w5.heap.size) _ ([]:List It) rfl r22 _ [x] rfl (Sq.block B22 rfl rfl (Nat.le_refl _) (by simp [maxLen])) (by have:=HT.out;simp <;> omega) (by decide) G.size ?_;intro a23 c23 w23 r23 f23;generalize hT3:([]:List It)++[x]=T3 at r23 ⊢)
      replace G:=G.own f23 (row_base r22)
      clear f23 r22 B22
      refine nx_normal ⟨G,?_⟩
      refine eo 13 (fun w14 F14=>?_)
      have r24:=row_keeps r23 F14
      replace G:=G.trans F14
      clear r23 F14
      have S2':=HS2.out.up G
      go_wp2_with (at_builtin;refine wpList_appSq fT_lays rfl _ _ 51 rfl Tryz.underlying51 itI rfl (B:=w5.heap.size) _ T3 rfl r24 _ out rfl S2' (by have:=HT.out;rw [← hT3];simp <;> omega) (by decide) G.size ?_;intro a25 c25 w25 r25 f25;generalize hT4:T3++out=T4 at r25 ⊢)
      replace G:=G.own f25 (row_base r24)
      clear f25 r24 S2'
      refine nx_normal ⟨G,?_⟩
      refine eo 14 (fun w15 F15=>?_)
      have r26:=row_keeps r25 F15
      replace G:=G.trans F15
      clear r25 F15
      go_wp2
      refine nx_normal ⟨G,?_⟩
      refine env_done (by kernel_rfl) (fun w16 F16=>?_)
      have r27:=row_keeps r26 F16
      replace G:=G.trans F16
      clear r26 F16
      have e26:sortT (l.take (i+1))=T4:=by rw [HN.out.1,HT.out.2.2,hT3,hT4]
      rw [← e26] at r27 ⊢
      have r28:=row_more r27 FW.size
      go_wp2
      exact ⟨⟨i+1,by omega,by go_num,r28,FW.trans G⟩,by simp [intOf];omega⟩
    ·obtain ⟨y,hy⟩:∃ y,out[j]? = some y:=⟨out[j],List.getElem?_eq_getElem (by omega)⟩
     have HO2:=HO.up F2
     have HL2:=h.up (F.trans F2)
     obtain ⟨go,oo,rfl,y0,y1,y2⟩:=it_cells HO2 hy
     obtain ⟨gl,ol,rfl,x0,x1,x2⟩:=it_cells HL2 hx
     have hj1:((j+1:Nat):Int) - 1=(j:Nat):=by omega
     have hps:=posT_succ (x:=x) hy
     have n0:=In.cell y0
     have n1:=In.cell y1
     have m0:=In.cell x0
     have m1:=In.cell x1
     clear HO2 HL2
     by_cases e1:y.k>x.k
     ·have g1:decide (y.k>x.k)=true:=by simpa using e1
      have hg:gtT y x=true:=by unfold gtT;rw [g1];rfl
      have HP:=Lib.hid (show posT out x (j+1)=posT out x j by rw [hps,if_pos hg])
      clear hps hg
      go_wp2_with fail
      refine wi ?_
      repeat (go_big_quiet_step (fail))
      refine wpQuiet_nil ?_
      intro w5 F5
      go_wp2_with fail
      exact ⟨⟨j,by omega,rfl,F2.trans F5,hp.trans HP.out⟩,by simp [intOf]⟩
     have g1:decide (y.k>x.k)=false:=by simpa using e1
     by_cases e2:y.k=x.k
     focus
      have g2:(y.k == x.k)=true:=by simpa using e2
      by_cases e3:y.v>x.v
      ·have g3:decide (y.v>x.v)=true:=by simpa using e3
       have hg:gtT y x=true:=by unfold gtT;rw [g1,g2,g3];rfl
       have HP:=Lib.hid (show posT out x (j+1)=posT out x j by rw [hps,if_pos hg])
       clear hps hg e2
       go_wp2_with fail
       refine wi ?_
       repeat (go_big_quiet_step (fail))
       refine wpQuiet_nil ?_
       intro w5 F5
       go_wp2_with fail
       exact ⟨⟨j,by omega,rfl,F2.trans F5,hp.trans HP.out⟩,by simp [intOf]⟩
      have g3:decide (y.v>x.v)=false:=by simpa using e3
      have hg:gtT y x=false:=by unfold gtT;rw [g1,g2,g3];rfl
      have HP:=Lib.hid (show posT out x (j+1)=j+1 by rw [hps,if_neg (by simp [hg])])
      clear hps hg e2
     rotate_left
     focus
      have g2:(y.k == x.k)=false:=by simpa using e2
      have hg:gtT y x=false:=by unfold gtT;rw [g1,g2];rfl
      have HP:=Lib.hid (show posT out x (j+1)=j+1 by rw [hps,if_neg (by simp [hg])])
      clear hps hg
     rotate_left
     all_goals
      go_wp2_with fail
      refine wi ?_
      repeat (go_big_quiet_step (fail))
      refine wpQuiet_nil ?_
      intro w5 F5
      clear n0 n1 m0 m1 y0 y1 y2 x0 x1 x2
      by_cases hjl:j+1<out.length
      ·go_wp2_with fail
       have FW:=(F.trans F2).trans F5
       have HO5:=HO.up (F2.trans F5)
       have HL5:=Lib.hid (h.up FW)
       refine wp_region_env (by kernel_rfl) [] (fun w2 F2'=>?_)
       refine ep [true,true,true,false,true,true,true,true,false,false,true,true,true,false,false] 5 F2' ?_
       apply Exists.intro
       refine ⟨fun wf Ff=>?_,?_⟩
       ·obtain ⟨gl',ol',hgl,x0,x1,x2⟩:=it_cells (HL5.out.up Ff) hx
        simp only [Option.some.injEq,Addr.mk.injEq] at hgl
        obtain ⟨rfl,rfl,-⟩:=hgl
        have j0:=In.cell x0
        have j1:=In.cell x1
        have j2:=In.cell x2
        clear x0 x1 x2
        simp only [sel]
        repeat (go_big_quiet_step (fail))
        exact wpQuiet_nil rfl
       have HS1:=Lib.hid (Sq.take fT_lays HO5 (j+1) (by omega))
       have HS2:=Lib.hid (Sq.drop fT_lays HO5 (j+1) (by omega))
       have HT:=Lib.hid (show (out.take (j+1)).length≤1000∧(out.drop (j+1)).length≤1000∧insT out x=out.take (j+1)++[x]++out.drop (j+1) from ⟨by have:=HN.out;simp;omega,by have:=HN.out;simp;omega,by unfold insT;rw [hp,HP.out]⟩)
       generalize out.take (j+1)=T1 at HS1 HT
       generalize out.drop (j+1)=T2 at HS2 HT
       refine env_ready [3,8] (by kernel_rfl) (by simp) (fun w10 F10 m hm o ho=>?_)
       have G:=F2'.trans F10
       clear F10 F2'
       simp only [List.mem_cons,List.not_mem_nil,or_false] at hm
       rcases hm with rfl | rfl
       focus
        obtain rfl:=Option.some.inj ho
        have S1':=HS1.out.up G
        go_wp2_with (at_builtin;refine wpList_appSq fT_lays rfl _ _ 51 rfl Tryz.underlying51 itI rfl (B:=w5.heap.size) (.slice none 0 0) [] rfl ⟨rfl,.inl ⟨rfl,rfl⟩⟩ _ T1 rfl S1' (by have:=HT.out;simp <;> omega) (by decide) G.size ?_;intro a21 c21 w21 r21 f21)
        rw [List.nil_append] at r21
        replace G:=G.trans f21
        clear f21 S1'
        refine nx_normal ⟨G,?_⟩
        refine eo 8 (fun w11 F11=>?_)
        have r11:=row_keeps r21 F11
        replace G:=G.trans F11
        clear r21 F11
        go_wp2_with fail
        have F12:=(Fr.refl [] w11).alloc (.cells #[.int .i64 x.k,.int .i64 x.v,.int .i64 x.d] 60)
        have B21:=Go.heap_alloc_new w11 (.cells #[.int .i64 x.k,.int .i64 x.v,.int .i64 x.d] 60)
        have r21:=row_keeps r11 F12
        replace G:=G.trans F12
        clear r11 F12 ho
       rotate_left
       focus
        obtain rfl:=Option.some.inj ho
        go_wp2_with fail
        have F12:=(Fr.refl [] w10).alloc (.cells #[.int .i64 x.k,.int .i64 x.v,.int .i64 x.d] 60)
        have B12:=Go.heap_alloc_new w10 (.cells #[.int .i64 x.k,.int .i64 x.v,.int .i64 x.d] 60)
        replace G:=G.trans F12
        clear F12 ho
        refine nx_normal ⟨G,?_⟩
        refine eo 3 (fun w11 F11=>?_)
        have B13:=F11.heap B12 (by simp)
        replace G:=G.trans F11
        clear B12 F11
        have S1':=HS1.out.up G
        go_wp2_with (at_builtin;refine wpList_appSq fT_lays rfl _ _ 51 rfl Tryz.underlying51 itI rfl (B:=w5.heap.size) (.slice none 0 0) [] rfl ⟨rfl,.inl ⟨rfl,rfl⟩⟩ _ T1 rfl S1' (by have:=HT.out;simp <;> omega) (by decide) G.size ?_;intro a21 c21 w21 r21 f21)
        rw [List.nil_append] at r21
        have B21:=Fr.heap f21 B13 (by simp [Value.ownBlock])
        replace G:=G.trans f21
        clear f21 B13 S1'
       rotate_left
       all_goals
        refine nx_normal ⟨G,?_⟩
        refine eo 9 (fun w13 F13=>?_)
        have r22:=row_keeps r21 F13
        have B22:=F13.heap B21 (by simp)
        replace G:=G.trans F13
        clear r21 B21 F13
        go_wp2_with (at_builtin;refine wpList_appSq fT_lays rfl _ _ 51 rfl Tryz.underlying51 itI rfl (B:=w5.heap.size) _ T1 rfl r22 _ [x] rfl (Sq.block B22 rfl rfl (Nat.le_refl _) (by simp [maxLen])) (by have:=HT.out;simp <;> omega) (by decide) G.size ?_;intro a23 c23 w23 r23 f23;generalize hT3:T1++[x]=T3 at r23 ⊢)
        replace G:=G.own f23 (row_base r22)
        clear f23 r22 B22
        refine nx_normal ⟨G,?_⟩
        refine eo 13 (fun w14 F14=>?_)
        have r24:=row_keeps r23 F14
        replace G:=G.trans F14
        clear r23 F14
        have S2':=HS2.out.up G
        go_wp2_with (at_builtin;refine wpList_appSq fT_lays rfl _ _ 51 rfl Tryz.underlying51 itI rfl (B:=w5.heap.size) _ T3 rfl r24 _ T2 rfl S2' (by have:=HT.out;rw [← hT3];simp <;> omega) (by decide) G.size ?_;intro a25 c25 w25 r25 f25;generalize hT4:T3++T2=T4 at r25 ⊢)
        replace G:=G.own f25 (row_base r24)
        clear f25 r24 S2'
        refine nx_normal ⟨G,?_⟩
        refine eo 14 (fun w15 F15=>?_)
        have r26:=row_keeps r25 F15
        replace G:=G.trans F15
        clear r25 F15
        go_wp2
        refine nx_normal ⟨G,?_⟩
        refine env_done (by kernel_rfl) (fun w16 F16=>?_)
        have r27:=row_keeps r26 F16
        replace G:=G.trans F16
        clear r26 F16
        have e26:sortT (l.take (i+1))=T4:=by rw [HN.out.1,HT.out.2.2,hT3,hT4]
        rw [← e26] at r27 ⊢
        have r28:=row_more r27 FW.size
        go_wp2
        exact ⟨⟨i+1,by omega,by go_num,r28,FW.trans G⟩,by simp [intOf];omega⟩
      have hje:j+1=out.length:=by omega
      go_wp2_with fail
      have FW:=(F.trans F2).trans F5
      have HO5:=HO.up (F2.trans F5)
      have HL5:=Lib.hid (h.up FW)
      refine wp_region_env (by kernel_rfl) [] (fun w2 F2'=>?_)
      refine ep [true,true,true,false,true,true,true,true,false,false,true,true,true,false,false] 5 F2' ?_
      apply Exists.intro
      refine ⟨fun wf Ff=>?_,?_⟩
      ·obtain ⟨gl',ol',hgl,x0,x1,x2⟩:=it_cells (HL5.out.up Ff) hx
       simp only [Option.some.injEq,Addr.mk.injEq] at hgl
       obtain ⟨rfl,rfl,-⟩:=hgl
       have j0:=In.cell x0
       have j1:=In.cell x1
       have j2:=In.cell x2
       clear x0 x1 x2
       simp only [sel]
       repeat (go_big_quiet_step (fail))
       exact wpQuiet_nil rfl
      have hc2:co - out.length≤maxLen:=by omega
      generalize co - out.length=c2 at hc2 ⊢
      generalize (if co=out.length then some (⟨go,oo,none⟩:Addr) else some (⟨go,oo+out.length * 3,none⟩:Addr))=a2
      have HS1:=Lib.hid (HO5)
      have HS2:=Lib.hid (Sq.empty (f:=fT) w5 a2 hc2)
      have hend:posT out x out.length=out.length:=by have:=HP.out;rw [hje] at this;exact this
      obtain ⟨T1,hT1⟩:∃ T1,T1=out:=⟨out,rfl⟩
      have HT:=Lib.hid (show T1.length≤1000∧([]:List It).length≤1000∧insT out x=T1++[x]++[] from ⟨by rw [hT1];have:=HN.out;omega,by simp,by rw [hT1];unfold insT;rw [hend,List.take_length,List.drop_length]⟩)
      have HS1:=Lib.hid (show Sq fT w5 (.slice (some ⟨go,oo,none⟩) T1.length co) T1 by rw [hT1];exact HO5)
      rw [← hT1]
      have HT1:=Lib.hid hT1
      clear hT1 hend
      refine env_ready [3,8] (by kernel_rfl) (by simp) (fun w10 F10 m hm o ho=>?_)
      have G:=F2'.trans F10
      clear F10 F2'
      simp only [List.mem_cons,List.not_mem_nil,or_false] at hm
      rcases hm with rfl | rfl
      focus
       obtain rfl:=Option.some.inj ho
       have S1':=HS1.out.up G
       go_wp2_with (at_builtin;refine wpList_appSq fT_lays rfl _ _ 51 rfl Tryz.underlying51 itI rfl (B:=w5.heap.size) (.slice none 0 0) [] rfl ⟨rfl,.inl ⟨rfl,rfl⟩⟩ _ T1 rfl S1' (by have:=HT.out;simp <;> omega) (by decide) G.size ?_;intro a21 c21 w21 r21 f21)
       rw [List.nil_append] at r21
       replace G:=G.trans f21
       clear f21 S1'
       refine nx_normal ⟨G,?_⟩
       refine eo 8 (fun w11 F11=>?_)
       have r11:=row_keeps r21 F11
       replace G:=G.trans F11
       clear r21 F11
       go_wp2_with fail
       have F12:=(Fr.refl [] w11).alloc (.cells #[.int .i64 x.k,.int .i64 x.v,.int .i64 x.d] 60)
       have B21:=Go.heap_alloc_new w11 (.cells #[.int .i64 x.k,.int .i64 x.v,.int .i64 x.d] 60)
       have r21:=row_keeps r11 F12
       replace G:=G.trans F12
       clear r11 F12 ho
      rotate_left
      focus
       obtain rfl:=Option.some.inj ho
       go_wp2_with fail
       have F12:=(Fr.refl [] w10).alloc (.cells #[.int .i64 x.k,.int .i64 x.v,.int .i64 x.d] 60)
       have B12:=Go.heap_alloc_new w10 (.cells #[.int .i64 x.k,.int .i64 x.v,.int .i64 x.d] 60)
       replace G:=G.trans F12
       clear F12 ho
       refine nx_normal ⟨G,?_⟩
       refine eo 3 (fun w11 F11=>?_)
       have B13:=F11.heap B12 (by simp)
       replace G:=G.trans F11
       clear B12 F11
       have S1':=HS1.out.up G
       go_wp2_with (at_builtin;refine wpList_appSq fT_lays rfl _ _ 51 rfl Tryz.underlying51 itI rfl (B:=w5.heap.size) (.slice none 0 0) [] rfl ⟨rfl,.inl ⟨rfl,rfl⟩⟩ _ T1 rfl S1' (by have:=HT.out;simp <;> omega) (by decide) G.size ?_;intro a21 c21 w21 r21 f21)
       rw [List.nil_append] at r21
       have B21:=Fr.heap f21 B13 (by simp [Value.ownBlock])
       replace G:=G.trans f21
       clear f21 B13 S1'
      rotate_left
      all_goals
       refine nx_normal ⟨G,?_⟩
       refine eo 9 (fun w13 F13=>?_)
       have r22:=row_keeps r21 F13
       have B22:=F13.heap B21 (by simp)
       replace G:=G.trans F13
       clear r21 B21 F13
       go_wp2_with (at_builtin;refine wpList_appSq fT_lays rfl _ _ 51 rfl Tryz.underlying51 itI rfl (B:=w5.heap.size) _ T1 rfl r22 _ [x] rfl (Sq.block B22 rfl rfl (Nat.le_refl _) (by simp [maxLen])) (by have:=HT.out;simp <;> omega) (by decide) G.size ?_;intro a23 c23 w23 r23 f23;generalize hT3:T1++[x]=T3 at r23 ⊢)
       replace G:=G.own f23 (row_base r22)
       clear f23 r22 B22
       refine nx_normal ⟨G,?_⟩
       refine eo 13 (fun w14 F14=>?_)
       have r24:=row_keeps r23 F14
       replace G:=G.trans F14
       clear r23 F14
       have S2':=HS2.out.up G
       go_wp2_with (at_builtin;refine wpList_appSq fT_lays rfl _ _ 51 rfl Tryz.underlying51 itI rfl (B:=w5.heap.size) _ T3 rfl r24 _ ([]:List It) rfl S2' (by have:=HT.out;rw [← hT3];simp <;> omega) (by decide) G.size ?_;intro a25 c25 w25 r25 f25;generalize hT4:T3++([]:List It)=T4 at r25 ⊢)
       replace G:=G.own f25 (row_base r24)
       clear f25 r24 S2'
       refine nx_normal ⟨G,?_⟩
       refine eo 14 (fun w15 F15=>?_)
       have r26:=row_keeps r25 F15
       replace G:=G.trans F15
       clear r25 F15
       go_wp2
       refine nx_normal ⟨G,?_⟩
       refine env_done (by kernel_rfl) (fun w16 F16=>?_)
       have r27:=row_keeps r26 F16
       replace G:=G.trans F16
       clear r26 F16
       have e26:sortT (l.take (i+1))=T4:=by rw [HN.out.1,HT.out.2.2,hT3,hT4]
       rw [← e26] at r27 ⊢
       have r28:=row_more r27 FW.size
       go_wp2
       exact ⟨⟨i+1,by omega,by go_num,r28,FW.trans G⟩,by simp [intOf];omega⟩
  ·obtain rfl:i=l.length:=by omega
   rw [List.take_length] at hr
   have HR:=Lib.hid hr
   obtain ⟨ao,co,rfl,-,-⟩:=row_cell hr
   go_wp2_with fail
   go_ret
   exact ⟨⟨_,rfl,HR.out⟩,F⟩
def fI (x:Int):List Value:=[.int .i64 x]
theorem fI_lays:Lays fI 1:=⟨fun _=>rfl,fun x u hu=>by rw [List.mem_singleton.1 hu];rfl,by decide⟩
theorem intI:(Tryz.prog.info? 3).map (fun i=>(i.zero,i.size,i.bytes))=some (some (.int .i64 0),1,8):=by kernel_rfl
theorem int_cell {w:World} {a:Option Addr} {n cap i:Nat} {xs:List Int} {x:Int} (h:Sq fI w (.slice a n cap) xs) (hi:xs[i]? = some x) :
  ∃ g off,a=some ⟨g,off,none⟩∧w.cell? ⟨g,off+i,none⟩=some (.int .i64 x):=by
 obtain ⟨-,g,off,rfl,hc⟩:=Sq.cell fI_lays h hi
 exact ⟨g,off,rfl,by simpa using hc 0 _ rfl⟩
def keepsB (x:It) (nx:Option It) (vs:List Int):Bool :=
 nx.all (fun y=>y.k != x.k) || vs.any fun v=>decide (x.v≤v) && (nx.all (fun y=>y.k != x.k) || nx.any fun y=>decide (v<y.v))
def keepS (vs:List Int):List It→List It
 | []=>[]
 | x :: r=>if keepsB x r.head? vs=true then x :: keepS vs r else keepS vs r
def keepT (l:List It) (vs:List Int):List It:=keepS vs (sortT l)
end Go.Proofs.YtilipdnchflkhaaGreatDoor.Mx
namespace Go.Proofs.YtilipdnchflkhaaGreatDoor.Mx
def splitF (half:Int):Nat→List It→List (List It)→List It→List (List It)
 | 0,_,out,cur=>out++[cur]
 | n+1,l,out,cur =>
  match l with
  | []=>out++[cur]
  | x :: r =>
   let run:=x :: r.takeWhile (fun y=>y.k == x.k)
   if cur≠[]∧half<(cur.length:Int)+run.length then splitF half n (r.dropWhile (fun y=>y.k == x.k)) (out++[cur]) run
   else splitF half n (r.dropWhile (fun y=>y.k == x.k)) out (cur++run)
def halfOf (cells:Int):Int:=max 2 (min cells 16) / 2
def splitT (l:List It) (cells:Int):List (List It):=splitF (halfOf cells) l.length l [] []
def minsT (least:Int) (gs:List (List It)):List Int :=
 match gs with
 | []=>[]
 | _ :: r=>least :: r.map fun g=>(g.head?.map It.k).getD 0
end Go.Proofs.YtilipdnchflkhaaGreatDoor.Mx
namespace Go.Proofs.YtilipdnchflkhaaGreatDoor.Mx
open Go.RowKit Go.Proofs.YtilipdnchflkhaaGreatDoor.Ar
structure Nk where
 at_:Int
 mn:Int
 ct:Int
 nx:Int
 its:List It
def chunksF (c:Cf) (at_ after:Int):List (List It)→List Int→List Nk
 | [],_=>[]
 | g :: r,ms=>⟨at_,ms.headD 0,g.length,nextW (if r=[] then after else wrap64 (at_+sizeP c)) false,g⟩ :: chunksF c (wrap64 (at_+sizeP c)) after r ms.tail
def chunksT (c:Cf) (at_ after least:Int) (gs:List (List It)):List Nk :=
 if gs.all (fun g=>decide ((g.length:Int)≤c.c))=true then chunksF c at_ after gs (minsT least gs) else []
def itWords (at_:Int):Nat→List It→List (Int×Int)
 | _,[]=>[]
 | k,y :: r=>(stAt at_ k,stateW y.v) :: (wrap64 (stAt at_ k+1),y.k) :: (wrap64 (stAt at_ k+2),y.d) :: itWords at_ (k+1) r
def nkWords (x:Nk):List (Int×Int):=(wrap64 x.at_,x.mn) :: (wrap64 (x.at_+1),x.ct) :: (wrap64 (x.at_+2),x.nx) :: itWords x.at_ 0 x.its
def wordsT (l:List Nk):List (Int×Int):=l.flatMap nkWords
theorem itWords_len (at_:Int):∀ (l:List It) (k:Nat),(itWords at_ k l).length=3 * l.length
 | [],_=>rfl
 | y :: r,k=>by unfold itWords;simp only [List.length_cons,itWords_len at_ r];omega
theorem itWords_snoc (at_:Int) (y:It):∀ (l:List It) (k:Nat),itWords at_ k (l++[y])=itWords at_ k l++[(stAt at_ ((k+l.length:Nat):Int),stateW y.v),(wrap64 (stAt at_ ((k+l.length:Nat):Int)+1),y.k),(wrap64 (stAt at_ ((k+l.length:Nat):Int)+2),y.d)]
 | [],k=>rfl
 | z :: r,k=>by
  rw [List.cons_append]
  unfold itWords
  rw [itWords_snoc at_ y r (k+1),List.length_cons,show k+1+r.length=k+(r.length+1) by omega];rfl
theorem wordsT_step {ns:List Nk} {i:Nat} {n:Nk} (h:ns[i]? = some n):wordsT (ns.take (i+1))=wordsT (ns.take i)++nkWords n:=by
 unfold wordsT
 rw [List.take_add_one,h,Option.toList_some,List.flatMap_append];simp
theorem stateW_ge (v:Int):3≤stateW v:=by unfold stateW hd;omega
theorem chunksF_length (c:Cf) (after:Int):∀ (gs:List (List It)) (at_:Int) (ms:List Int),(chunksF c at_ after gs ms).length=gs.length
 | [],_,_=>rfl
 | g :: r,at_,ms=>by unfold chunksF;rw [List.length_cons,chunksF_length c after r];rfl
end Go.Proofs.YtilipdnchflkhaaGreatDoor.Mx
