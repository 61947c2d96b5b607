/- Texts that this proof leans on, one behind the other: Seq, Item, Look, Look4. -/
import Derived.Test.YtjhefbenmhmbcaaDoorQaa
import Derived.Test.YtjhefbenmhmbcaaDoorQab
import Derived.Test.YtjhefbenmhmbcaaDoorQac
import Derived.Test.YtjhefbenmhmbcaaDoorQad
import Derived.Deep.Upon
set_option linter.unusedVariables false
set_option linter.unusedSimpArgs false
set_option maxRecDepth 100000
set_option maxHeartbeats 12800000
namespace Go.Proofs.YtjhefbenmhmbcaaDoor.Mx
open Go.RowKit Go.Proofs.YtjhefbenmhmbcaaDoor.Ar
section
variable {α:Type} {f:α→List Value} {sz:Nat}
structure Lays (f:α→List Value) (sz:Nat):Prop where
 len:∀ x,(f x).length=sz
 one:∀ x,∀ u∈f x,u.oneCell'=true
 pos:0<sz
theorem Lays.flat (h:Lays f sz) (xs:List α):(xs.flatMap f).length=xs.length * sz:=by
 induction xs with
 | nil=>simp
 | cons x xs ih=>rw [List.flatMap_cons,List.length_append,ih,h.len,List.length_cons,Nat.succ_mul];omega
theorem Lays.ones (h:Lays f sz) (xs:List α):∀ u∈xs.flatMap f,u.oneCell'=true:=by
 intro u hu
 obtain ⟨x,-,hx⟩:=List.mem_flatMap.1 hu
 exact h.one x u hx
theorem Lays.at (h:Lays f sz) {xs:List α} {i j:Nat} {x:α} (hi:xs[i]? = some x) (hj:j<sz):(xs.flatMap f)[i * sz+j]? = (f x)[j]?:=by
 induction xs generalizing i with
 | nil=>simp at hi
 | cons y xs ih =>
  rw [List.flatMap_cons]
  cases i with
  | zero =>
   simp at hi;subst hi
   rw [Nat.zero_mul,Nat.zero_add,List.getElem?_append_left (by rw [h.len];exact hj)]
  | succ i =>
   rw [List.getElem?_append_right (by rw [h.len,Nat.succ_mul];omega),h.len,Nat.succ_mul,show i * sz+sz+j - sz=i * sz+j by omega]
   exact ih (by simpa using hi)
def Sq (f:α→List Value) (w:World) (v:Value) (xs:List α):Prop:=∃ a cap,v = .slice a xs.length cap∧xs.length≤cap∧cap≤maxLen ∧
 (xs.length=0∨∃ g off,a=some ⟨g,off,none⟩∧g<w.heap.size∧∀ j u,(xs.flatMap f)[j]? = some u→w.cell? ⟨g,off+j,none⟩=some u)
theorem Sq.kept {S:List Nat} {w w':World} {v:Value} {xs:List α} (h:Sq f w v xs) (k:Fr S w w') (hS:∀ g,g∈v.ownBlock.toList→g∉S):Sq f w' v xs:=by
 obtain ⟨a,cap,rfl,h1,h2,h3⟩:=h
 refine ⟨a,cap,rfl,h1,h2,h3.imp id ?_⟩
 rintro ⟨g,off,rfl,hg,hc⟩
 exact ⟨g,off,rfl,Nat.lt_of_lt_of_le hg k.size,fun j u hu=>k.cell (hc j u hu) (hS g (by simp [Value.ownBlock]))⟩
theorem Sq.up {w w':World} {v:Value} {xs:List α} (h:Sq f w v xs) (k:Fr [] w w'):Sq f w' v xs:=h.kept k (by simp)
theorem Sq.own {w:World} {B:Nat} {E:TypeId} {v:Value} {xs:List α} (h:w.ownsRow B E sz v xs.length (xs.flatMap f)):Sq f w v xs:=by
 obtain ⟨h1,h2⟩:=h
 rcases h2 with ⟨rfl,e0⟩ | ⟨g,cap,cur,rfl,-,hh,hc1,hc2,hs,ht⟩
 ·have h0:xs.length=0:=by first | exact e0 | omega
  exact ⟨none,0,by rw [h0],by omega,by simp [maxLen],.inl h0⟩
 ·refine ⟨_,cap,rfl,hc1,hc2,.inr ⟨g,0,rfl,(Array.getElem?_eq_some_iff.1 hh).1,fun j u hu=>?_⟩⟩
  rw [Nat.zero_add,cell_of_row _ _ _ _ _ _ hh]
  have hj:j<xs.length * sz:=by rw [← h1];exact (List.getElem?_eq_some_iff.1 hu).1
  rw [← ht,List.getElem?_take_of_lt hj] at hu
  simpa using hu
theorem Sq.cell (hL:Lays f sz) {w:World} {a:Option Addr} {n cap:Nat} {xs:List α} (h:Sq f w (.slice a n cap) xs) {i:Nat} {x:α} (hi:xs[i]? = some x) :
  n=xs.length∧∃ g off,a=some ⟨g,off,none⟩∧∀ j u,(f x)[j]? = some u→w.cell? ⟨g,off+i * sz+j,none⟩=some u:=by
 obtain ⟨a',cap',e,h1,h2,h3⟩:=h
 simp only [Value.slice.injEq] at e
 obtain ⟨rfl,rfl,rfl⟩:=e
 refine ⟨rfl,?_⟩
 have hlt:=(List.getElem?_eq_some_iff.1 hi).1
 rcases h3 with h0 | ⟨g,off,rfl,-,hc⟩
 ·omega
 ·refine ⟨g,off,rfl,fun j u hu=>?_⟩
  have hj:j<sz:=by have:=(List.getElem?_eq_some_iff.1 hu).1;rw [hL.len] at this;exact this
  rw [Nat.add_assoc]
  exact hc _ _ ((hL.at hi hj).trans hu)
theorem addr_add (b o j:Nat):(⟨b,o,none⟩:Addr).add j=⟨b,o+j,none⟩:=by
 unfold Addr.add;split
 ·rename_i h;subst h;rfl
 ·rfl
theorem wpList_appSq {P:Program} {w:World} {ops:Array Oper} {rest:List Oper} {o:Oper} {a:Act} {Q:Exit→Act→World→Prop} (hL:Lays f sz) (hgd:o.guard=none) (s x:Operand) (t:TypeId)
  (ho:o.op = .call { callee:=.builtin .append,args:=#[s,x],argTypes:=#[t,t] }) {E:TypeId} {z:Value} {bytes:Nat} (ht:P.underlying t=some (.slice E)) (hi:(P.info? E).map (fun i=>(i.zero,i.size,i.bytes))=some (some z,sz,bytes)) (hzs:z.cells.size=sz)
  {B:Nat} (v:Value) (os:List α) (hs:a.eval s=v) (hown:w.ownsRow B E sz v os.length (os.flatMap f)) (xv:Value) (ps:List α) (hx:a.eval x=xv) (hp:Sq f w xv ps)
  (hl:os.length+ps.length≤1000000) (hb:bytes≤1000) (hbase:B≤w.heap.size)
  (h:∀ a' c' w',w'.ownsRow B E sz (.slice a' (os++ps).length c') (os++ps).length ((os++ps).flatMap f)→Fr v.ownBlock.toList w w'→wpList P ops Q rest (a.put o.dst (.slice a' (os++ps).length c')) w'):wpList P ops Q (o :: rest) a w:=by
 obtain ⟨ad,cap,rfl,hcap,hm,hc⟩:=hp
 obtain ⟨i,hi0,hz,hs0,hb0⟩:=info_parts hi
 have hbytes:(os.length+ps.length) * bytes≤140737488355328:=Nat.le_trans (Nat.mul_le_mul hl hb) (by decide)
 have go:∀ (ad:Addr),(∀ j u,(ps.flatMap f)[j]? = some u→w.cell? (ad.add j)=some u)→a.eval x = .slice (some ad) ps.length cap→wpList P ops Q (o :: rest) a w:=by
  intro ad hcell hx
  refine wpList_append_own_at w hgd s x t ho B E i _ sz bytes ht hi0 hz hs0 hb0 hzs hL.pos v os.length _ hs hown ad ps.length cap (ps.flatMap f) hx (hL.flat ps) hcell (hL.ones ps) (by unfold maxLen;omega) hbytes hbase fun v' w' h2 h3 _ _=>?_
  rw [← List.flatMap_append,← List.length_append] at h2
  obtain ⟨a',c',rfl,-,-⟩:=row_cell h2
  exact h a' c' w' h2 (fr_grown h3)
 have hnil:ps.length=0→wpList P ops Q (o :: rest) a w:=by
  intro h0
  obtain rfl:ps=[]:=List.eq_nil_of_length_eq_zero h0
  cases ad with
  | some ad=>exact go ad (fun j u hu=>by simp at hu) hx
  | none =>
   have hown':=hown
   obtain ⟨hxl,hv⟩:=hown
   have hle:∃ b0 c0,v = .slice b0 os.length c0∧os.length≤c0:=by
    rcases hv with ⟨rfl,e0⟩ | ⟨g,c0,cur,rfl,-,-,h1,-⟩
    ·have hx0:os.length=0:=by first | exact e0 | omega
     exact ⟨none,0,by rw [hx0],by omega⟩
    ·exact ⟨_,c0,rfl,by first | exact h1 | omega⟩
   obtain ⟨b0,c0,rfl,hle⟩:=hle
   refine wpList_plain hgd fun K hK=>?_
   have hr:=run_append_nothing (P:=P) w t t o.type E i ht hi0 b0 os.length c0 hle (.slice none 0 cap) (by rw [hs0];exact Src.ofNil w ht cap)
   unfold Oper.wp execOp
   have hx':a.eval x = .slice none 0 cap:=hx
   simp only [ho,resolve,invoke,builtin,Sem.run_bind,Sem.run_pure,Result.andThen_ok,List.map_toArray,List.map_cons,List.map_nil,hs,hx',hr]
   have h':=h b0 c0 w
   rw [List.append_nil] at h'
   exact hK _ _ (h' hown' (Fr.refl _ _))
 rcases hc with h0 | ⟨g,off,rfl,-,hcell⟩
 ·exact hnil h0
 ·exact go ⟨g,off,none⟩ (fun j u hu=>by rw [addr_add];exact hcell j u hu) hx
end
structure It where
 k:Int
 v:Int
 d:Int
deriving DecidableEq
def fT (x:It):List Value:=[.int .i64 x.k,.int .i64 x.v,.int .i64 x.d]
theorem fT_lays:Lays fT 3:=⟨fun _=>rfl,fun x u hu=>by simp [fT] at hu;rcases hu with rfl | rfl | rfl <;> rfl,by decide⟩
theorem itI:(Tryd.prog.info? 26).map (fun i=>(i.zero,i.size,i.bytes))=some (some (.agg #[.int .i64 0,.int .i64 0,.int .i64 0]),3,24):=by kernel_rfl
theorem it_cells {w:World} {a:Option Addr} {n cap i:Nat} {xs:List It} {x:It} (h:Sq fT w (.slice a n cap) xs) (hi:xs[i]? = some x) :
  ∃ g off,a=some ⟨g,off,none⟩∧w.cell? ⟨g,off+i * 3,none⟩=some (.int .i64 x.k)∧w.cell? ⟨g,off+i * 3+1,none⟩=some (.int .i64 x.v)∧w.cell? ⟨g,off+i * 3+2,none⟩=some (.int .i64 x.d):=by
 obtain ⟨-,g,off,rfl,hc⟩:=Sq.cell fT_lays h hi
 exact ⟨g,off,rfl,hc 0 _ rfl,hc 1 _ rfl,hc 2 _ rfl⟩
end Go.Proofs.YtjhefbenmhmbcaaDoor.Mx
namespace Go.Proofs.YtjhefbenmhmbcaaDoor.Mx
open Go.RowKit Go.Proofs.YtjhefbenmhmbcaaDoor.Ar Go.Proofs.YtjhefbenmhmbcaaDoor.Ref
structure Lok where
 c:Cf
 chunk:Int
 lo:Int
 hi:Int
 most:Int
 line:Int
 i:Int
 count:Int
 s:Int
 k:Int
 g:Int
 lv:Value
 l:List It
def Lok.new (c:Cf) (chunk lo hi most:Int):Lok:=⟨c,chunk,lo,hi,most,1,0,0,0,0,0,.slice none 0 0,[]⟩
def Lok.on (x:Lok):Lok:=if x.count≤x.i+1 then { x with i:=x.i+1,line:=0 } else { x with i:=x.i+1,line:=2 }
def itemN (l:List It) (key:Int):Option Nat:=l.findIdx? (fun y=>y.k == key)
def itemI (l:List It) (key:Int):Int:=match itemN l key with | some i=>(i:Int) | none=>-1
def insK:List It→It→List It
 | [],x=>[x]
 | y :: r,x=>if y.k<x.k then y :: insK r x else x :: y :: r
def putK (l:List It) (x:It):List It:=match itemN l x.k with | some i=>l.set i x | none=>insK l x
def Lok.skips (x:Lok):Bool:=decide (x.most<verW x.s) || (match itemN x.l x.k with | some i=>decide (verW x.s<(x.l.getD i ⟨0,0,0⟩).v) | none=>false)
def Lok.seven (x:Lok):Lok:=if x.skips=true then ({ x with line:=7 }:Lok).on else { x with line:=7 }
end Go.Proofs.YtjhefbenmhmbcaaDoor.Mx
