/- Texts that this proof leans on, one behind the other: Dk7, Dk8, Known11, Give1, Give2, Gives. -/
import Derived.Test.YtilipdnchflkhaaDoorGal
import Derived.Test.YtilipdnchflkhaaDoorGap
import Derived.Test.YtilipdnchflkhaaDoorGar
import Derived.Test.YtilipdnchflkhaaDoorGax
import Derived.Sort.MapsRangeIn
set_option linter.unusedVariables false
set_option linter.unusedSimpArgs false
set_option maxRecDepth 100000
set_option maxHeartbeats 12800000
namespace Go.Proofs.YtilipdnchflkhaaDoor.Dk
open Go.RowKit Go.Maps Go.Sort Go.Shelf Go.Proofs.YtilipdnchflkhaaDoor.Ar Go.Proofs.YtilipdnchflkhaaDoor.Mx Go.Proofs.YtilipdnchflkhaaDoor.Vw Go.Proofs.YtilipdnchflkhaaDoor.Ch Go.Proofs.YtilipdnchflkhaaDoor.Kp
def cfK (x y:It):Int:=cfZ x.k y.k
theorem cfK_lt {x y:It}:cfK x y<0↔x.k<y.k:=by
 unfold cfK cfZ
 split
 ·omega
 ·split <;> omega
theorem cfK_swo:SWO (fun x y:It=>decide (cfK x y<0)) where
 irrefl x:=by simp [cfK_lt]
 trans x y z h1 h2:=by simp only [decide_eq_true_eq,cfK_lt] at *;omega
 ntrans x y z h1 h2:=by simp only [decide_eq_false_iff_not,cfK_lt] at *;omega
theorem dcmp_any (x y:It) (w:World):Calls Tryd.prog 27 #[.agg (fT x).toArray,.agg (fT y).toArray] w fun e w'=>e = .returned (.int .i64 (cfK x y))∧Dr.Fr [] w w':=by
 have B1:=Go.heap_alloc_new (w.alloc (.cells (fT x).toArray 45)) (.cells (fT y).toArray 45)
 have B0:=(Below.heap_alloc (w.alloc (.cells (fT x).toArray 45)) (.cells (fT y).toArray 45) w.heap.size (by simp)).trans (Go.heap_alloc_new w (.cells (fT x).toArray 45))
 have F0:Dr.Fr [] w ((w.alloc (.cells (fT x).toArray 45)).alloc (.cells (fT y).toArray 45)):=((Dr.Fr.refl _ _).alloc _).alloc _
 rw [show (w.alloc (.cells (fT x).toArray 45)).heap.size=w.heap.size+1 by simp] at B1
 obtain ⟨a0,-,-⟩:=cells3 B0
 obtain ⟨b0,-,-⟩:=cells3 B1
 clear B0 B1
 go_enter Tryd.func27,Tryd.ntmps27
 go_wp2_with fail
 refine (cmp_any x.k y.k _).mono ?_;rintro e w1 ⟨rfl,rfl⟩
 go_wp2
 go_ret
 exact ⟨rfl,F0⟩
theorem dcmpLays (blk off size:Nat) (w:World):CmpLays Tryd.prog 27 #[] fT 3 cfK blk off size w :=
 fun m os dk _ x y=>(dcmp_any x y _).mono fun e w' h=>⟨h.1,h.2.grow⟩
theorem len64_0 (w:World):Calls Tryd.prog 62 #[.int .u64 0] w fun e w'=>e = .returned (.int .i64 0)∧w'=w:=by
 go_enter Tryd.func62,Tryd.ntmps62
 go_wp2
 go_ret
 exact ⟨by kernel_rfl,rfl⟩
theorem len_0 (w:World):Calls Tryd.prog 52 #[.int .u64 0] w fun e w'=>e = .returned (.int .i64 0)∧w'=w:=by
 go_enter Tryd.func52,Tryd.ntmps52
 go_wp2_with fail
 refine (len64_0 _).mono ?_;rintro e w1 ⟨rfl,rfl⟩
 go_wp2
 go_ret
 exact ⟨rfl,rfl⟩
theorem insk_nil (w:World) (c:Value):Calls Tryd.prog 53 #[.slice none 0 0,.int .i64 0,.int .i64 0,c] w fun e w'=>e = .returned (.tuple #[])∧w'=w:=by
 go_enter Tryd.func53,Tryd.ntmps53
 go_wp2
 go_loopw [8] (fun x wr=>x = .int .i64 1∧wr=w) (fun _ _=>0)
 case atStart=>exact ⟨rfl,rfl⟩
 ·obtain ⟨rfl,rfl⟩:=hrel
  go_wp2
  go_end0
  exact ⟨rfl,rfl⟩
theorem pdq_nil (w:World) (c:Value):Calls Tryd.prog 51 #[.slice none 0 0,.int .i64 0,.int .i64 0,.int .i64 0,c] w fun e w'=>e = .returned (.tuple #[])∧w'=w:=by
 go_enter Tryd.func51,Tryd.ntmps51
 go_wp2
 go_loopw [1,2,3] (fun a b l wr=>a = .int .i64 0∧b = .int .i64 0∧l = .int .i64 0∧wr=w) (fun _ _ _ _=>0)
 case atStart=>exact ⟨rfl,rfl,rfl,rfl⟩
 ·obtain ⟨rfl,rfl,rfl,rfl⟩:=hrel
  go_wp2_with fail
  refine (insk_nil _ _).mono ?_;rintro e w1 ⟨rfl,rfl⟩
  go_wp2
  refine bodyPost_ret (results_none rfl _ _ _) rfl ?_
  exact ⟨rfl,rfl⟩
theorem sf_nil (w:World) (c:Value):Calls Tryd.prog 42 #[.slice none 0 0,c] w fun e w'=>e = .returned (.tuple #[])∧w'=w:=by
 go_enter Tryd.func42,Tryd.ntmps42
 go_wp2_with fail
 refine (len_0 _).mono ?_;rintro e w1 ⟨rfl,rfl⟩
 go_wp2_with fail
 refine (pdq_nil _ c).mono ?_;rintro e w1 ⟨rfl,rfl⟩
 go_wp2
 go_end0
 exact ⟨rfl,rfl⟩
theorem dsfn_any (u:Value) (xs:List It) (w:World) (B:Nat) (h:w.ownsRow B 45 3 u xs.length (xs.flatMap fT)) (hl:xs.length≤1000) :
  Calls Tryd.prog 42 #[u,.func (.func 27) #[] #[]] w fun e w' =>
   e = .returned (.tuple #[])∧∃ c:List It,c.Perm xs∧(c.Pairwise fun a b=>a.k≤b.k)∧w'.ownsRow B 45 3 u c.length (c.flatMap fT)∧Ar.Fr u.ownBlock.toList w w':=by
 rcases h.2 with ⟨rfl,h0⟩ | ⟨g,cap,cur,rfl,hbase,hb,h1,h2,h3,h4⟩
 ·obtain rfl:=List.eq_nil_of_length_eq_zero h0
  refine Calls.mono (sf_nil w _) ?_
  rintro e w' ⟨rfl,rfl⟩
  exact ⟨rfl,[],List.Perm.refl _,List.Pairwise.nil,h,Ar.Fr.refl _ _⟩
 ·have R:=rowK_of hb h4
  have H:=AnyQ.slices_SortFunc Tryd.sortF 3 (by intro w;kernel_rfl) (by intro w;kernel_rfl) fT (fun _=>rfl) R.h1 cfK cfK_swo 27 #[] g 0 cap xs.toArray w (enters_of Tryd.func27 (by kernel_rfl) rfl) (dcmpLays g 0 _ w) R.hH R.hblk (by simp;omega)
  refine Calls.mono H ?_
  rintro e w' ⟨rfl,d',n,os,hp,hs,rfl⟩
  have hsz:d'.size=xs.length:=by have:=hp.1;simpa using this
  obtain ⟨o1,o2⟩:=own_swk hbase hb h1 h2 h3 (⟨n,os,rfl⟩:SWK fT 3 w g 0 d' _) hsz
  refine ⟨rfl,d'.toList,?_,?_,?_,o2.mono (by simp [Value.ownBlock])⟩
  ·have:=hp.2.2
   rw [show (d'.extract 0 xs.toArray.size)=d' by rw [show xs.toArray.size=d'.size by simp [hsz]];simp,show (xs.toArray.extract 0 xs.toArray.size)=xs.toArray by simp] at this
   simpa using this
  ·rw [List.pairwise_iff_getElem]
   intro i j hi hj hij
   simp at hi hj
   have:=hs i j (Nat.zero_le _) hij (by simp;omega)
   simp only [ltOf,decide_eq_false_iff_not,cfK_lt] at this
   simp [hi,hj] at this
   exact this
  ·rw [show d'.toList.length=xs.length by simp [hsz]];exact o1
theorem dsfunc_any (g:Nat) (lb:Array Value) (eg:∀ args w,(callFunc g args).run Tryd.prog w = .ok (.enter g args) w) (S:List It→Prop) (N:Nat) (hN:N≤1000) (w:World) (hseq:Feeds 3 Tryd.prog g lb ApT.enc S N w) (hS:∀ ss,S ss→ss.length≤1000) :
  Calls Tryd.prog 25 #[.func (.func g) #[] lb,.func (.func 27) #[] #[]] w fun e w'=>∃ u ss c,e = .returned u∧S ss∧List.Perm c ss∧(List.Pairwise (fun a b:It=>a.k≤b.k) c)∧w'.ownsRow w.heap.size 45 3 u c.length (c.flatMap fT)∧Ar.Fr [] w w':=by
 have H:=callsIn_wide.1 (ApT.collect 5 (by omega) g lb eg S N hN w hseq)
 clear hseq
 go_enter Tryd.func25,Tryd.ntmps25
 go_wp2_with fail
 refine H.mono ?_
 rintro e w1 ⟨u,ss,rfl,hs,hrow,hb⟩
 have H2:=dsfn_any u ss w1 w.heap.size hrow (hS ss hs)
 have F1:=ApT.fr_of hb
 have HO:=Lib.hid (own_lt hrow)
 clear H hrow hb
 go_wp2_with fail
 refine H2.mono ?_
 rintro e w2 ⟨rfl,c,hp,hc,hrow2,F2⟩
 have F3:=F1.own F2 HO.out
 have HC:=Lib.hid (And.intro hp hc)
 clear H2 hp hc
 go_wp2_with fail
 go_ret
 exact ⟨u,ss,c,rfl,hs,HC.out.1,HC.out.2,hrow2,F3⟩
structure ColI (g:Int→Option It) (left:Lit→Bool) (ss:List It):Prop where
 mem:∀ x,x∈ss↔g x.k=some x∧left (.int .i64 x.k)=false
 apart:ss.Pairwise fun a b=>a.k≠b.k
theorem same_int (a b:Int):(Lit.int .i64 a).sameKey (.int .i64 b)=true↔a=b:=by
 unfold Lit.sameKey
 simp
theorem ColI.step {g:Int→Option It} {left:Lit→Bool} {ss:List It} (h:ColI g left ss) (hg:∀ k y,g k=some y→y.k=k) {x:It} (hx:g x.k=some x) (hl:left (.int .i64 x.k)=true):ColI g (fun z=>left z && !z.sameKey (.int .i64 x.k)) (ss++[x]):=by
 constructor
 ·intro y
  rw [List.mem_append,h.mem]
  simp only [List.mem_singleton,Bool.and_eq_false_iff,Bool.not_eq_false']
  constructor
  ·rintro (⟨h1,h2⟩ | rfl)
   ·exact ⟨h1,.inl h2⟩
   ·exact ⟨hx,.inr ((same_int _ _).2 rfl)⟩
  ·rintro ⟨h1,h2 | h2⟩
   ·exact .inl ⟨h1,h2⟩
   ·rw [(same_int _ _).1 h2,hx] at h1
    exact .inr (Option.some.inj h1).symm
 ·rw [List.pairwise_append]
  refine ⟨h.apart,by simp,fun a ha b hb=>?_⟩
  simp only [List.mem_singleton] at hb
  subst hb
  intro e1
  have:=((h.mem a).1 ha).2
  rw [e1,hl] at this
  cases this
theorem only_of {g:Int→Option It} (hg:∀ k y,g k=some y→y.k=k) {D:DataW Value} (hD:HoldsV D (mapG g)) {kv c:Value} {kl:Lit} (hk:keyOf Tryd.prog 3 kv=some kl) (hat:∀ zd,D.atKey kl zd = .held c):∃ x,g x.k=some x∧kl = .int .i64 x.k∧c=itV x:=by
 obtain ⟨k,-,rfl,-⟩:=Maps.keyOf_int_inv Tryd.underlying3 hk
 have h1:=has_true_of_atKey hat
 rw [(hD.2 k).1] at h1
 obtain ⟨v,hv⟩:=Option.isSome_iff_exists.1 h1
 have h2:=(hD.2 k).2 v hv (.held c)
 rw [hat] at h2
 unfold mapG at hv
 obtain ⟨x,hx,rfl⟩:=Option.map_eq_some_iff.1 hv
 refine ⟨x,?_,?_,?_⟩
 ·rw [hg _ _ hx];exact hx
 ·rw [hg _ _ hx]
 ·cases h2;rfl
theorem valuesI_any (b:Nat) (w:World):Calls Tryd.prog 26 #[.map (some b)] w fun e w'=>e = .returned (.func (.func 43) #[] #[.pointer (some ⟨w.heap.size,0,none⟩)])∧w'=w.alloc (.cells #[.map (some b)] 60):=by
 go_enter Tryd.func26,Tryd.ntmps26
 go_wp2_with fail
 go_ret
 exact ⟨rfl,rfl⟩
theorem feedsI (n:Nat) (hn:1≤n) (Bm b nn:Nat) (g:Int→Option It) (hg:∀ k y,g k=some y→y.k=k) (w:World) (hm:w.cell? ⟨Bm,0,none⟩=some (.map (some b))) (h:GMap w b nn (mapG g)) :
  Feeds n Tryd.prog 43 #[.pointer (some ⟨Bm,0,none⟩)] ApT.enc (fun ys=>(∀ x,x∈ys↔g x.k=some x)∧(ys.Pairwise fun a b=>a.k≠b.k)∧ys.length≤nn) nn w:=by
 intro l J W hW hJ hB hY h0
 have hm0:=(ApT.fr_of hW).cell hm (by simp)
 obtain ⟨D,hown0,hD⟩:=h
 have hsz:=hown0.size_le
 have hown:W.ownsMap Tryd.prog 3 asIs b nn D:=by
  have hbl:=hown0.lt
  obtain ⟨es,clock,hb,Ft,hs,hDD⟩:=hown0
  exact ⟨es,clock,(hW.block b hbl).trans hb,Ft,hs,hDD⟩
 clear hown0 hm
 refine callsIn_of_wp Tryd.func43 rfl trivial ?_ rfl
 simp only [Tryd.ntmps43,List.size_toArray,List.length_cons,List.length_nil,Nat.reduceAdd,Nat.reduceSub,Array.replicate_succ,Array.replicate_zero,List.push_toArray,List.append_toArray,List.nil_append,List.cons_append]
 gi_wp2_with (first
  | (gi_at_range;refine wpListIn_range_own _ rfl _ 60 rfl 3 45 intKeyV Tryd.underlying60 _ b nn _ rfl hown ?_;intro w0 hrg0 hg0 hs0)
  | gi_in)
 go_frame
 gi_loopw [4] (fun _ wr=>∃ (left:Lit→Bool) (cnt:Nat) (ss:List It),wr.ranges Tryd.prog 3 asIs b W.heap.size nn D left cnt∧ss.length+cnt≤Maps.size D∧ColI g left ss∧J ss wr)
  (fun _ wr=>wr.rangeLeft b W.heap.size)
 case atStart =>
  exact ⟨_,_,[],hrg0,by simp,⟨fun x=>⟨fun h=>by simp at h,fun ⟨h1,h2⟩=>by rw [(hD.2 x.k).1] at h2;unfold mapG at h2;rw [h1] at h2;cases h2⟩,List.Pairwise.nil⟩,hJ [] W w0 none h0 hg0 (fun r e=>by cases e)⟩
 ·obtain ⟨left,cnt,ss,hrg,hcs,hC,hJs⟩:=hrel
  gi_wp2_with (first
   | (gi_at_next;refine wpListIn_next_ranges _ rfl _ rfl 3 intKeyV asIs (id:Value→Value) (id:Value→Value) (fun key kl hk=>⟨key,rfl⟩) (fun v _ _=>⟨v,rfl⟩) b W.heap.size nn _ _ _ rfl hrg ?_ ?_)
   | gi_in)
  ·intro hc0 hl0
   gi_wp2
   go_end0
   exact ⟨⟨_,rfl⟩,ss,⟨fun x=>by rw [hC.mem,hl0];simp,hC.apart,by omega⟩,hJs⟩
  ·intro kv c kl yd yp w2 cnt2 hkey hlk hv hat hrg2 hlt hg2 hs2 hen
   obtain rfl:yd = .held c:=by unfold asIs at hv;simp at hv;exact hv.1.symm
   obtain ⟨x,hx,rfl,rfl⟩:=only_of hg hD hkey hat
   have hJ2:J ss w2:=hJ ss wr w2 (some W.heap.size) hJs hg2 (fun r e=>by cases e;exact ⟨Nat.le_refl _,hrg.iter_walk⟩)
   have hJ3:J ss (w2.alloc (.cells #[.int .i64 x.k,.int .i64 x.v,.int .i64 x.d] 45)):=hJ ss w2 _ none hJ2 (World.grownBy_alloc w2 _ none) (fun r e=>by cases e)
   have hC2:=hC.step hg hx hlk
   obtain ⟨fn,tmps,assign,bdy,hy,hR⟩:=hY ss x _ hJ3 (by omega)
   have hrg5:=hrg2.of_walks (KeepsWalks.alloc w2 (.cells #[.int .i64 x.k,.int .i64 x.v,.int .i64 x.d] 45))
   unfold itV at hen
   unfold ApT.enc at hy
   clear hs2 hg2 hJ2 hJ3 hJs hv hat hx
   gi_wp2
   refine hR.mono ?_
   rintro e W3 ⟨rfl,hJ4,hk3⟩
   gi_wp2
   have hrg3:=hrg5.of_walks hk3
   go_roundw
   case rel=>exact ⟨_,cnt2,ss++[x],hrg3,by simp;omega,hC2,hJ4⟩
   case measure=>rw [hrg3.left_eq,hrg.left_eq];exact hlt
theorem keyG_key (l:List It) (k:Int) (y:It) (h:keyG l k=some y):y.k=k:=by
 unfold keyG at h
 have:=List.find?_some h
 simpa using this
theorem sorted_ext:∀ (c l:List It),(c.Pairwise fun a b=>a.k<b.k)→(l.Pairwise fun a b=>a.k<b.k)→(∀ x,x∈c↔x∈l)→c=l
 | [],[],_,_,_=>rfl
 | [],y :: r,_,_,h=>by have:=(h y).2 (by simp);simp at this
 | x :: c,[],_,_,h=>by have:=(h x).1 (by simp);simp at this
 | x :: c,y :: r,h1,h2,h=>by
  rw [List.pairwise_cons] at h1 h2
  have hx:=(h x).1 (by simp)
  have hy:=(h y).2 (by simp)
  rw [List.mem_cons] at hx hy
  have e:x=y:=by
   rcases hx with e | hx
   ·exact e
   ·rcases hy with e | hy
    ·exact e.symm
    ·have a1:=h2.1 x hx
     have a2:=h1.1 y hy
     omega
  subst e
  congr 1
  refine sorted_ext c r h1.2 h2.2 fun z=>?_
  have hz:=h z
  rw [List.mem_cons,List.mem_cons] at hz
  constructor
  ·intro a
   rcases hz.1 (.inr a) with e | a2
   ·have:=h1.1 z a;rw [e] at this;omega
   ·exact a2
  ·intro a
   rcases hz.2 (.inr a) with e | a2
   ·have:=h2.1 z a;rw [e] at this;omega
   ·exact a2
theorem sorted_of {l c:List It} (hl:l.Pairwise fun a b=>a.k<b.k) {ss:List It} (hm:∀ x,x∈ss↔keyG l x.k=some x) (ha:ss.Pairwise fun a b=>a.k≠b.k) (hp:c.Perm ss) (hc:c.Pairwise fun a b=>a.k≤b.k):c=l:=by
 have hlm:∀ x,keyG l x.k=some x↔x∈l:=by
  intro x
  constructor
  ·intro h;exact List.mem_of_find?_eq_some h
  ·intro h
   rcases item_key l x.k with ⟨-,h2⟩ | ⟨i,y,-,h3,h4,h5⟩
   ·unfold keyG at h2
    rw [List.find?_eq_none] at h2
    have:=h2 x h
    simp at this
   ·rw [h4]
    have hy:y∈l:=List.mem_of_getElem? h3
    congr 1
    refine Classical.byContradiction fun hne=>?_
    rcases List.mem_iff_getElem.1 hy with ⟨i1,h1,rfl⟩
    rcases List.mem_iff_getElem.1 h with ⟨i2,h2,rfl⟩
    have hll:=List.pairwise_iff_getElem.1 hl
    by_cases e:i1<i2
    ·have:=hll i1 i2 h1 h2 e;omega
    ·by_cases e2:i2<i1
     ·have:=hll i2 i1 h2 h1 e2;omega
     ·obtain rfl:i1=i2:=by omega
      exact hne rfl
 have hca:c.Pairwise fun a b=>a.k≠b.k:=hp.symm.pairwise ha (fun {a b} h=>h.symm)
 have hcs:c.Pairwise fun a b=>a.k<b.k:=by
  rw [List.pairwise_iff_getElem] at hc hca ⊢
  intro i j hi hj hij
  have h1:=hc i j hi hj hij
  have h2:=hca i j hi hj hij
  omega
 have hmem:∀ x,x∈c↔x∈l:=fun x=>by rw [hp.mem_iff,hm,hlm]
 exact sorted_ext c l hcs hl hmem
theorem ditems_any (x:Lok) (hs:x.l.Pairwise fun a b=>a.k<b.k) (b m n:Nat) (hn:n≤1000) (w:World) (h:DkIs w b m n x) :
  Calls Tryd.prog 16 #[.pointer (some ⟨b,0,none⟩)] w fun e w'=>∃ u,e = .returned u∧w'.ownsRow w.heap.size 45 3 u x.l.length (x.l.flatMap fT)∧Fr [] w w':=by
 obtain ⟨cell,-,h2,h3⟩:=h
 obtain ⟨-,-,-,-,-,-,-,-,-,-,-,c11⟩:=dc_cells h2
 have F0:=(Fr.refl [] w).alloc (.cells #[.map (some m)] 60)
 have hm:=(cell_of_box_a (Go.heap_alloc_new w (.cells #[.map (some m)] 60))).1
 have hf:=feedsI 3 (by omega) w.heap.size m n (keyG x.l) (keyG_key x.l) _ hm (h3.up F0)
 have H:=dsfunc_any 43 #[.pointer (some ⟨w.heap.size,0,none⟩)] (enters_of Tryd.func43 (by kernel_rfl) rfl) (fun ss=>(∀ y,y∈ss↔keyG x.l y.k=some y)∧(ss.Pairwise fun a b=>a.k≠b.k)∧ss.length≤n) n hn _ hf (fun ss e=>Nat.le_trans e.2.2 hn)
 clear hf hm h2 h3
 go_enter Tryd.func16,Tryd.ntmps16
 go_wp2_with fail
 refine (valuesI_any m w).mono ?_
 rintro e _ ⟨rfl,rfl⟩
 go_wp2_with fail
 refine H.mono ?_
 rintro e w2 ⟨u,ss,c,rfl,⟨h4,h5,-⟩,hp,hc,hrow,F⟩
 obtain rfl:=sorted_of hs h4 h5 hp hc
 clear H
 have hrow2:w2.ownsRow w.heap.size 45 3 u x.l.length (x.l.flatMap fT):=by
  refine ⟨hrow.1,hrow.2.imp id ?_⟩
  rintro ⟨g,cap,cur,e1,e2,e3⟩
  exact ⟨g,cap,cur,e1,by simp at e2;omega,e3⟩
 clear hrow
 go_wp2_with fail
 go_ret
 exact ⟨u,rfl,hrow2,F0.trans F⟩
end Go.Proofs.YtilipdnchflkhaaDoor.Dk
namespace Go.Proofs.YtilipdnchflkhaaDoor.Dk
open Go.RowKit Go.Maps Go.Proofs.YtilipdnchflkhaaDoor.Ar Go.Proofs.YtilipdnchflkhaaDoor.Mx Go.Proofs.YtilipdnchflkhaaDoor.Vw
set_option maxRecDepth 100000
theorem it_eql11 (k i o k' i' o':Int) (W:World):(binOp .eql 45 (.agg #[.int .i64 k,.int .i64 i,.int .i64 o]) (.agg #[.int .i64 k',.int .i64 i',.int .i64 o'])).run Tryd.prog W = .ok (.bool (k == k' && i == i' && o == o')) W:=by
 have u3:=Tryd.underlying3
 have a3:(isAgg 3).run Tryd.prog W = .ok false W:=by kernel_rfl
 have hS:Tryd.prog.underlying 45=some (.struct (Tryd.prog.fieldsOf 45)):=by kernel_rfl
 have hp:Tryd.prog.stoodInHeld 45=false:=by kernel_rfl
 rw [run_eql_struct,show (10000:Nat)=9999+1 from rfl,run_equalIn_agg W 9999 45 _ _ hS hp]
 simp only [Program.fieldsOf,Tryd.underlying45]
 go_simp
 cases h1:k == k' <;> cases h2:i == i' <;> cases h3:o == o' <;> simp_all
def s0:St:=Pl.begun 1 3 100
def s1:St:=(((s0.poke 16 2).poke 25 1).poke 26 9).poke 27 5
def c1:Cf:=⟨1,3,100,1000⟩
theorem c1ok:c1.Ok:=⟨by decide,by decide,by decide,by decide,by decide,by decide,by decide,by decide,by decide⟩
def x1:Lok:=Lok.new c1 15 0 63 100
def stepsL:Nat→Lok→St→Lok×St
 | 0,x,s=>(x,s)
 | n+1,x,s=>let r:=stepsL n x s;r.1.step r.2
theorem end1:(stepsL 8 x1 s1).1.line=0:=by decide +kernel
theorem run1:∀ k,k<8→(stepsL k x1 s1).1.line≠0:=by decide +kernel
theorem its1:(stepsL 8 x1 s1).1.l=[⟨9,0,5⟩]:=by decide +kernel
theorem giv1:peek (stepsL 8 x1 s1).2.l 25=3:=by decide +kernel
theorem tabK {S:List Nat} {w w':World} (t:Word.Tab w) (f:Fr S w w') (h:0∉S):Word.Tab w':=by
 obtain ⟨t0,t1,t2,t3,t4,t5,t6,t7,t8,t9,t10,t11⟩:=t
 exact ⟨f.cell t0 h,f.cell t1 h,f.cell t2 h,f.cell t3 h,f.cell t4 h,f.cell t5 h,f.cell t6 h,f.cell t7 h,f.cell t8 h,f.cell t9 h,f.cell t10 h,f.cell t11 h⟩
theorem tabLt {w:World} (t:Word.Tab w):0<w.heap.size:=World.block_lt_of_cell? w _ t.1
theorem steps_ok {x:Lok} {s:St} (h:LokOk x):∀ n,LokOk (stepsL n x s).1
 | 0=>h
 | n+1=>(steps_ok h n).step _
def wordsIn (l:List Int):Bool:=l.all fun v=>decide (v≤9223372036854775807)
theorem peek_in {l:List Int} (h:wordsIn l=true) (p:Int):peek l p≤9223372036854775807:=by
 unfold wordsIn at h
 rw [List.all_eq_true] at h
 unfold peek nth
 split
 ·rw [List.getD_eq_getElem?_getD]
  cases e:l[p.toNat]? with
  | none=>simp
  | some v=>have:=h v (List.mem_of_getElem? e);simpa using this
 ·omega
theorem words1:∀ k,k<9→wordsIn (stepsL k x1 s1).2.l=true:=by decide +kernel
theorem steps_ks {x:Lok} {s:St} (h:LkS x):∀ n,(∀ k,k<n→wordsIn (stepsL k x s).2.l=true)→LkS (stepsL n x s).1
 | 0,_=>h
 | n+1,hw=>(steps_ks h n (fun k hk=>hw k (by omega))).step _ (peek_in (hw n (by omega)))
theorem steps_line {x:Lok} {s:St} (h:0≤x.line∧x.line≤7):∀ n,0≤(stepsL n x s).1.line∧(stepsL n x s).1.line≤7
 | 0=>h
 | n+1=>by
  have hn:=steps_line (s:=s) h n
  show 0≤((stepsL n x s).1.step (stepsL n x s).2).1.line∧((stepsL n x s).1.step (stepsL n x s).2).1.line≤7
  unfold Lok.step
  split
  ·exact next_line _ _
  ·exact hn
def LkR (W w:World) (b m p q:Nat) (x:Lok) (s:St) (v:Value) (wr:World):Prop:=∃ k n,v = .int .i64 (k:Nat)∧n≤k∧k<8∧DkIs wr b m n (stepsL k x s).1∧Ar wr p q (stepsL k x s).2∧Fr [b,m,p,q] W wr
theorem dnew1 (w:World):Calls Tryd.prog 11 #[.agg #[.int .i64 1,.int .i64 3,.int .i64 100,.int .i64 1000],.int .i64 15,.int .i64 0,.int .i64 63,.int .i64 100] w fun e w'=>∃ b m,e = .returned (.pointer (some ⟨b,0,none⟩))∧w.heap.size≤b∧w.heap.size≤m∧b≠m∧DkIs w' b m 0 x1∧Fr [] w w':=dnew_any c1 15 0 63 100 w
theorem known_true (w:World) (t:Word.Tab w):Calls Tryd.prog 4 #[] w fun e w'=>e = .returned (.bool true)∧Fr [] w w':=by
 have isE:=Er.isE
 go_enter Tryd.func4,Tryd.ntmps4
 go_wp2_with fail
 refine (Pl.conf_any 1 3 100 _).mono ?_;rintro e w1 ⟨rfl,F1⟩
 have G:=F1.alloc (.cells #[.int .i64 1,.int .i64 3,.int .i64 100,.int .i64 1000] 26)
 have oc:=Ob.new w1 26 #[.int .i64 1,.int .i64 3,.int .i64 100,.int .i64 1000]
 obtain ⟨c0,c1,c2,c3⟩:=Pl.cells4 oc
 have hcw:=oc.lt
 have hw1:=F1.size
 clear F1
 go_wp2_with fail
 refine (Pl.make_yes 1 3 100 1000 (by decide) _).mono ?_;rintro e w2 ⟨p,q,rfl,hp,hq,A,F2⟩
 rw [sizeA] at hp hq
 replace oc:=oc.up F2
 have hcw2:=oc.lt
 have hA2:=A.lt
 replace G:=G.trans F2
 have hG:=G.size
 have A:Ar w2 p q s0:=A
 clear F2 c0 c1 c2 c3
 generalize hbc:w1.heap.size=bc at *
 have nqc:bc≠q:=by omega
 have npc:bc≠p:=by omega
 have hwq:w.heap.size≤q:=by omega
 have hwp:w.heap.size≤p:=by omega
 obtain ⟨c0,c1,c2,c3⟩:=Pl.cells4 oc
 go_wp2_with fail
 refine (Pl.first_any 1 3 100 1000 (by decide) (by decide) _).mono ?_;rintro e w3 ⟨rfl,F3⟩
 replace A:=A.kept F3
 replace oc:=oc.up F3
 replace G:=G.trans F3
 clear F3 c0 c1 c2 c3 hG hA2 hcw2 hcw
 rw [show (3+1+4+7:Int)=15 by decide]
 go_wp2_with fail
 refine (poke_any _ p q _ _ _ A).mono ?_;rintro e w4 ⟨rfl,A2,F2⟩
 clear A
 have A:Ar w4 p q (s0.poke 16 2):=A2
 clear A2
 replace oc:=oc.kept F2 (by simpa using nqc)
 replace G:=G.own F2 (by simpa using hwq)
 clear F2
 go_wp2_with fail
 refine (Pl.state_any 15 1 (by decide) (by decide) (by decide) (by decide) _).mono ?_;rintro e _ ⟨rfl,rfl⟩
 go_wp2_with fail
 refine (poke_any _ p q _ _ _ A).mono ?_;rintro e w5 ⟨rfl,A2,F2⟩
 clear A
 have A:Ar w5 p q ((s0.poke 16 2).poke 25 1):=A2
 clear A2
 replace oc:=oc.kept F2 (by simpa using nqc)
 replace G:=G.own F2 (by simpa using hwq)
 clear F2
 go_wp2_with fail
 refine (Pl.state_any 15 1 (by decide) (by decide) (by decide) (by decide) _).mono ?_;rintro e _ ⟨rfl,rfl⟩
 go_wp2_with fail
 refine (poke_any _ p q _ _ _ A).mono ?_;rintro e w6 ⟨rfl,A2,F2⟩
 clear A
 have A:Ar w6 p q (((s0.poke 16 2).poke 25 1).poke 26 9):=A2
 clear A2
 replace oc:=oc.kept F2 (by simpa using nqc)
 replace G:=G.own F2 (by simpa using hwq)
 clear F2
 go_wp2_with fail
 refine (Pl.state_any 15 1 (by decide) (by decide) (by decide) (by decide) _).mono ?_;rintro e _ ⟨rfl,rfl⟩
 go_wp2_with fail
 refine (poke_any _ p q _ _ _ A).mono ?_;rintro e w7 ⟨rfl,A2,F2⟩
 clear A
 have A:Ar w7 p q s1:=A2
 clear A2
 replace oc:=oc.kept F2 (by simpa using nqc)
 replace G:=G.own F2 (by simpa using hwq)
 clear F2
 obtain ⟨c0,c1,c2,c3⟩:=Pl.cells4 oc
 go_wp2_with fail
 refine (dnew1 _).mono ?_;rintro e w8 ⟨b,m,rfl,hb,hm,nbm,D,F8⟩
 have hG:=G.size
 have hA:=A.lt
 have hC:=oc.lt
 replace oc:=oc.up F8
 replace A:=A.kept F8
 replace G:=G.trans F8
 clear F8 c0 c1 c2 c3
 go_wp2_with fail
 have HN:=Lib.hid (show b≠p∧b≠q∧b≠m∧m≠p∧m≠q from ⟨by omega,by omega,nbm,by omega,by omega⟩)
 have t8:=tabK t G (by simp)
 have hbt:=tabLt t
 have HT:=Lib.hid (And.intro t8 (show 0≠b∧0≠m∧0≠p∧0≠q by omega))
 have HB:=Lib.hid (show w.heap.size≤b∧w.heap.size≤m∧w.heap.size≤p∧w.heap.size≤q by omega)
 have HO:=Lib.hid oc
 clear t t8 hbt hb hm nbm hG hA hC oc hp hq hw1 hwq hwp npc nqc
 go_loopw [6] (LkR w8 w b m p q x1 s1) (fun v _=>20 - (intOf v).toNat)
 case atStart=>exact ⟨0,0,rfl,Nat.le_refl _,by omega,D,A,Fr.refl _ _⟩
 ·skip
  obtain ⟨k,n,rfl,hnk,hk8,D2,A2,F2⟩:=hrel
  have hst:=dstep_any (stepsL k x1 s1).1 (steps_ok (s:=s1) (LokOk.new c1ok 15 0 63 100) k) (steps_ks (LkS.new c1 15 0 63 100 ⟨by omega,by omega⟩) k (fun j hj=>words1 j (by omega))) (steps_line (by decide) k) b m n p q (stepsL k x1 s1).2 (peek_in (words1 k (by omega))) _ (tabK HT.out.1 F2 (by simp;exact HT.out.2)) HT.out.2.2.2 (by omega) HN.out D2 A2
  have HS:=Lib.hid hst
  have g1:decide ((k:Int)<20)=true:=by simp;omega
  clear hst D2 A2
  go_wp2_with fail
  refine HS.out.mono ?_;rintro e w9 ⟨rfl,⟨n2,hn2,D3⟩,A3,F3⟩
  have F4:=F2.trans F3
  by_cases hk:k<7
  ·have g2:decide ((stepsL (k+1) x1 s1).1.line=0)=false:=by simp;exact run1 (k+1) (by omega)
   have g3:decide (((stepsL k x1 s1).1.step (stepsL k x1 s1).2).1.line=0)=false:=g2
   clear g2
   go_wp2_with fail
   go_roundw
   case rel=>exact ⟨k+1,n2,by simp,by omega,by omega,D3,A3,F4⟩
   case measure=>simp [intOf];omega
  ·obtain rfl:k=7:=by omega
   have g3:decide (((stepsL 7 x1 s1).1.step (stepsL 7 x1 s1).2).1.line=0)=true:=by simp;exact end1
   have D4:DkIs w9 b m n2 (stepsL 8 x1 s1).1:=D3
   have A4:Ar w9 p q (stepsL 8 x1 s1).2:=A3
   have HI:=Lib.hid (ditems_any (stepsL 8 x1 s1).1 (by rw [its1];simp) b m n2 (by omega) w9 D4)
   have HAA:=Lib.hid A4
   rw [its1] at HI
   clear D3 A3 D4 A4 HS
   go_wp2_with fail
   refine HI.out.mono ?_;rintro e w10 ⟨u,rfl,hu,F10⟩
   obtain ⟨a2,c2,rfl,hc2,hm2,hh⟩:=Sq.own (f:=fT) hu
   have A5:=HAA.out.kept F10
   have F5:=F4.trans (F10.mono)
   obtain h0 | ⟨g,off,rfl,hg,hcell⟩:=hh
   ·simp at h0
   have x0:=hcell 0 (.int .i64 9) rfl
   have x1':=hcell 1 (.int .i64 0) rfl
   have x2:=hcell 2 (.int .i64 5) rfl
   rw [Nat.add_zero] at x0
   have ie:=it_eql11 9 0 5 9 0 5
   have HG:=Lib.hid (And.intro A5 F5)
   clear hu HI HAA hcell A5 F4 F10 F2 F3
   simp only [List.length_cons,List.length_nil,Nat.zero_add] at hc2 ⊢
   go_wp2_with fail
   refine (Pl.state_any 15 1 (by decide) (by decide) (by decide) (by decide) _).mono ?_;rintro e _ ⟨rfl,rfl⟩
   go_wp2_with fail
   refine (peek_any _ p q _ _ HG.out.1).mono ?_;rintro e w11 ⟨rfl,rfl⟩
   rw [giv1]
   go_wp2_with fail
   go_ret
   exact ⟨rfl,G.own HG.out.2 (by simp;exact ⟨HB.out.1,HB.out.2.1,HB.out.2.2⟩)⟩
theorem peek_defG (l:List Int) (q:Int):peek l q=if 0≤q∧q<(l.length:Int) then l.getD q.toNat 0 else 0:=by
 unfold peek isAt nth
 simp only [Bool.and_eq_true,decide_eq_true_eq]
theorem peek_pokeG (l:List Int) (p v q:Int):peek (poke l p v) q=if q=p∧0≤p∧p<(l.length:Int) then v else peek l q:=by
 by_cases hp:0≤p∧p<(l.length:Int)
 ·obtain ⟨k,rfl⟩:=Int.eq_ofNat_of_zero_le hp.1
  have hk:k<l.length:=by omega
  have e:poke l (k:Int) v=l.set k v:=by unfold poke isAt;simp [hk]
  rw [e,peek_defG,peek_defG l,List.length_set]
  by_cases hq:0≤q∧q<(l.length:Int)
  ·rw [if_pos hq,if_pos hq]
   by_cases h:q=(k:Int)
   ·subst h
    rw [if_pos ⟨rfl,hp⟩,Int.toNat_natCast,List.getD_eq_getElem?_getD,List.getElem?_set_self hk];rfl
   ·rw [if_neg (fun e=>h e.1),List.getD_eq_getElem?_getD,List.getElem?_set_ne (by omega),List.getD_eq_getElem?_getD]
  ·rw [if_neg hq,if_neg hq,if_neg (fun e=>hq (by rw [e.1];exact e.2))]
 ·have e:poke l p v=l:=by unfold poke isAt;rw [if_neg (by simpa using hp)]
  rw [e,if_neg (fun h=>hp h.2)]
theorem poke_lengthG (l:List Int) (p v:Int):(poke l p v).length=l.length:=by unfold poke;split <;> simp
def innG (L:List Int) (lo hi:Int) (k:Nat):Prop:=lo≤peek L (23+3 * k)∧peek L (23+3 * k)≤hi
instance (L:List Int) (lo hi:Int) (k:Nat):Decidable (innG L lo hi k):=by unfold innG;infer_instance
def wantG (L:List Int) (ck lo hi:Int):Nat→Int→Int
 | 0,j=>peek L j
 | k+1,j=>if j=22+3 * k∧wantG L ck lo hi k j=1∧innG L lo hi k then stateW ck else wantG L ck lo hi k j
theorem want_same {L:List Int} {ck lo hi:Int} {j:Int}:∀ {m:Nat},(∀ k:Nat,k<m→j≠22+3 * k)→wantG L ck lo hi m j=peek L j
 | 0,_=>rfl
 | m+1,h=>by
  unfold wantG
  rw [if_neg (fun e=>h m (by omega) e.1)]
  exact want_same (fun k hk=>h k (by omega))
theorem want_st {L:List Int} {ck lo hi:Int} {m i:Nat} (h:m≤i):wantG L ck lo hi m (22+3 * i)=peek L (22+3 * i):=want_same (fun k hk=>by omega)
theorem want_on {L:List Int} {ck lo hi:Int} {i:Nat} (h:peek L (22+3 * i)=1→¬ innG L lo hi i) (j:Int):wantG L ck lo hi (i+1) j=wantG L ck lo hi i j:=by
 conv=>lhs;unfold wantG
 rw [if_neg]
 rintro ⟨rfl,h1,h2⟩
 rw [want_st (Nat.le_refl _)] at h1
 exact h h1 h2
theorem want_give {L:List Int} {ck lo hi:Int} {i:Nat} (h:peek L (22+3 * i)=1) (h2:innG L lo hi i) (j:Int):wantG L ck lo hi (i+1) j=if j=22+3 * i then stateW ck else wantG L ck lo hi i j:=by
 conv=>lhs;unfold wantG
 by_cases e:j=22+3 * i
 ·subst e;rw [if_pos ⟨rfl,by rw [want_st (Nat.le_refl _)];exact h,h2⟩,if_pos rfl]
 ·rw [if_neg (fun h=>e h.1),if_neg e]
structure Jv (L:List Int) (n ck lo hi:Int) (x:Lok) (s:St):Prop where
 c:x.c.c=12
 ch:x.chunk=15
 flo:x.lo=lo
 fhi:x.hi=hi
 len:s.l.length=200
 at_:(x.line=1∧∀ j,peek s.l j=peek L j)∨(x.line=0∧∀ j,peek s.l j=wantG L ck lo hi n.toNat j) ∨
  ∃ i:Nat,x.i=i∧(i:Int)<n∧x.count=n∧((x.line=2∧∀ j,peek s.l j=wantG L ck lo hi i j)∨(x.line=3∧x.s=peek L (22+3 * i)∧∀ j,peek s.l j=wantG L ck lo hi i j) ∨
   (x.line=4∧peek L (22+3 * i)=1∧innG L lo hi i∧∀ j,peek s.l j=wantG L ck lo hi i j)∨(x.line=5∧x.g=ck∧peek L (22+3 * i)=1∧innG L lo hi i∧∀ j,peek s.l j=wantG L ck lo hi i j) ∨
   ((x.line=6∨x.line=7)∧∀ j,peek s.l j=wantG L ck lo hi (i+1) j))
def remG (n:Int) (x:Lok):Int:=if x.line=0 then 0 else if x.line=1 then 7 * n+8 else 7 * (n - x.i)+8 - x.line
theorem jv_on {L:List Int} {n ck lo hi:Int} {x:Lok} {s:St} {i:Nat} (c:x.c.c=12) (ch:x.chunk=15) (hl:x.lo=lo) (hh:x.hi=hi) (hs:s.l.length=200) (h1:x.i=i) (h2:(i:Int)<n) (h3:x.count=n) (h:∀ j,peek s.l j=wantG L ck lo hi (i+1) j) :
  Jv L n ck lo hi x.on s∧remG n x.on≤7 * (n - i) - 1:=by
 unfold Lok.on
 by_cases e:x.count≤x.i+1
 ·rw [if_pos e]
  refine ⟨⟨c,ch,hl,hh,hs,.inr (.inl ⟨rfl,?_⟩)⟩,?_⟩
  ·rw [show n.toNat=i+1 by omega];exact h
  ·unfold remG;rw [if_pos rfl];omega
 ·rw [if_neg e]
  refine ⟨⟨c,ch,hl,hh,hs,.inr (.inr ⟨i+1,?_,by push_cast;omega,h3,.inl ⟨rfl,h⟩⟩)⟩,?_⟩
  ·show x.i+1=_;rw [h1];push_cast;rfl
  ·unfold remG;simp only;rw [if_neg (by omega),if_neg (by omega)];omega
theorem jv_seven {L:List Int} {n ck lo hi:Int} {x:Lok} {s:St} {i:Nat} (c:x.c.c=12) (ch:x.chunk=15) (hl:x.lo=lo) (hh:x.hi=hi) (hs:s.l.length=200) (h1:x.i=i) (h2:(i:Int)<n) (h3:x.count=n) (h:∀ j,peek s.l j=wantG L ck lo hi (i+1) j) :
  Jv L n ck lo hi x.seven s∧remG n x.seven≤7 * (n - i)+1:=by
 unfold Lok.seven
 split
 ·have:=jv_on (x:={ x with line:=7 }) c ch hl hh hs h1 h2 h3 h
  exact ⟨this.1,by have:=this.2;omega⟩
 ·refine ⟨⟨c,ch,hl,hh,hs,.inr (.inr ⟨i,h1,h2,h3,.inr (.inr (.inr (.inr ⟨.inr rfl,h⟩)))⟩)⟩,?_⟩
  unfold remG;simp only;rw [if_neg (by omega),if_neg (by omega)];omega
theorem load_l (s:St) (i:Int):(s.load i).l=s.l:=rfl
theorem st15 {i:Nat} (h:i≤100):stAt 15 i=22+3 * i:=by unfold stAt;rw [w64 (by omega) (by omega)];omega
theorem Jv.step {L:List Int} {n ck lo hi:Int} (hn:0≤n∧n≤10) (hc:peek L 16=n) (hk:peek L 1=ck) {x:Lok} {s:St} (h:Jv L n ck lo hi x s) (hl:x.line≠0) :
  Jv L n ck lo hi (x.step s).1 (x.step s).2∧remG n (x.step s).1+1≤remG n x:=by
 obtain ⟨c,ch,h1,h2,len,h3⟩:=h
 unfold Lok.step
 rcases h3 with ⟨l,w⟩ | ⟨l,-⟩ | ⟨i,hi',hin,hct,h3⟩
 ·rw [if_pos (by unfold Lok.live;rw [l];rfl)]
  show Jv L n ck lo hi (x.next (x.told s)) (x.act s)∧remG n (x.next (x.told s))+1≤_
  have e1:x.told s=n:=by unfold Lok.told;rw [if_pos l,w,ch,show wrap64 (15+1)=16 by decide +kernel,hc]
  have e2:x.act s=s.load (wrap64 (x.chunk+1)):=by unfold Lok.act;rw [if_pos l]
  rw [e1,e2]
  unfold Lok.next
  rw [if_pos l,show max 0 (min n x.c.c)=n by omega]
  unfold Lok.on
  simp only
  by_cases e:n ≤ -1+1
  ·rw [if_pos e]
   refine ⟨⟨c,ch,h1,h2,len,.inr (.inl ⟨rfl,?_⟩)⟩,?_⟩
   ·rw [show n.toNat=0 by omega];exact w
   ·unfold remG;rw [if_pos rfl,if_neg hl,if_pos l];omega
  ·rw [if_neg e]
   refine ⟨⟨c,ch,h1,h2,len,.inr (.inr ⟨0,rfl,by push_cast;omega,rfl,.inl ⟨rfl,w⟩⟩)⟩,?_⟩
   unfold remG;simp only;rw [if_neg (by omega),if_neg (by omega),if_neg hl,if_pos l];omega
 ·exact absurd l hl
 ·have hsa:x.sa=22+3 * i:=by unfold Lok.sa;rw [ch,hi'];exact st15 (by omega)
  have hr:remG n x=7 * (n - i)+8 - x.line:=by
   unfold remG;rw [if_neg hl,if_neg (by omega),hi']
  rw [hr]
  rcases h3 with ⟨l,w⟩ | ⟨l,hs,w⟩ | ⟨l,hp,hin2,w⟩ | ⟨l,hg,hp,hin2,w⟩ | ⟨l,w⟩
  ·rw [if_pos (by unfold Lok.live;rw [l];rfl)]
   show Jv L n ck lo hi (x.next (x.told s)) (x.act s)∧remG n (x.next (x.told s))+1≤_
   have e1:x.told s=peek L (22+3 * i):=by unfold Lok.told;rw [if_neg (by omega),if_pos l,w,hsa,want_st (Nat.le_refl _)]
   have e2:x.act s=s.load x.sa:=by unfold Lok.act;rw [if_neg (by omega),if_pos l]
   rw [e1,e2]
   unfold Lok.next
   rw [if_neg (by omega),if_pos l]
   by_cases hv:peek L (22+3 * i)≤0∨peek L (22+3 * i)=2
   ·rw [if_pos hv]
    have:=jv_on (L:=L) (n:=n) (ck:=ck) (lo:=lo) (hi:=hi) (x:={ x with s:=peek L (22+3 * i),line:=3 }) (s:=s.load x.sa) (i:=i) c ch h1 h2 len hi' hin hct (fun j=>by rw [load_l,w,want_on (by omega)])
    exact ⟨this.1,by have:=this.2;omega⟩
   ·rw [if_neg hv]
    refine ⟨⟨c,ch,h1,h2,len,.inr (.inr ⟨i,hi',hin,hct,.inr (.inl ⟨rfl,rfl,w⟩)⟩)⟩,?_⟩
    unfold remG;simp only;rw [if_neg (by omega),if_neg (by omega),hi'];omega
  ·rw [if_pos (by unfold Lok.live;rw [l];rfl)]
   show Jv L n ck lo hi (x.next (x.told s)) (x.act s)∧remG n (x.next (x.told s))+1≤_
   have e1:x.told s=peek L (23+3 * i):=by
    unfold Lok.told;rw [if_neg (by omega),if_neg (by omega),if_pos l,w,hsa,w64 (by omega) (by omega),show (22+3 * (i:Int)+1)=23+3 * i by omega]
    exact want_same (fun k hk=>by omega)
   have e2:x.act s=s.load (wrap64 (x.sa+1)):=by unfold Lok.act;rw [if_neg (by omega),if_neg (by omega),if_pos l]
   rw [e1,e2]
   unfold Lok.next
   rw [if_neg (by omega),if_neg (by omega),if_pos l]
   by_cases hv:peek L (23+3 * i)<x.lo∨x.hi<peek L (23+3 * i)
   ·rw [if_pos hv]
    have:=jv_on (L:=L) (n:=n) (ck:=ck) (lo:=lo) (hi:=hi) (x:={ x with k:=peek L (23+3 * i) }) (s:=s.load (wrap64 (x.sa+1))) (i:=i) c ch h1 h2 len hi' hin hct (fun j=>by rw [load_l,w,want_on (fun _ h=>by unfold innG at h;omega)])
    exact ⟨this.1,by have:=this.2;omega⟩
   ·rw [if_neg hv]
    by_cases h1s:x.s=1
    ·rw [if_pos h1s]
     refine ⟨⟨c,ch,h1,h2,len,.inr (.inr ⟨i,hi',hin,hct,.inr (.inr (.inl ⟨rfl,by rw [← hs];exact h1s,by unfold innG;omega,w⟩))⟩)⟩,?_⟩
     unfold remG;simp only;rw [if_neg (by omega),if_neg (by omega),hi'];omega
    ·rw [if_neg h1s]
     have:=jv_seven (L:=L) (n:=n) (ck:=ck) (lo:=lo) (hi:=hi) (x:={ x with k:=peek L (23+3 * i) }) (s:=s.load (wrap64 (x.sa+1))) (i:=i) c ch h1 h2 len hi' hin hct (fun j=>by rw [load_l,w,want_on (fun e=>absurd (hs.trans e) h1s)])
     exact ⟨this.1,by have:=this.2;omega⟩
  ·rw [if_pos (by unfold Lok.live;rw [l];rfl)]
   show Jv L n ck lo hi (x.next (x.told s)) (x.act s)∧remG n (x.next (x.told s))+1≤_
   have e1:x.told s=ck:=by
    unfold Lok.told;rw [if_neg (by omega),if_neg (by omega),if_neg (by omega),if_pos l,w,← hk]
    exact want_same (fun k hk=>by omega)
   have e2:x.act s=s.load 1:=by unfold Lok.act;rw [if_neg (by omega),if_neg (by omega),if_neg (by omega),if_pos l]
   rw [e1,e2]
   unfold Lok.next
   rw [if_neg (by omega),if_neg (by omega),if_neg (by omega),if_pos l]
   refine ⟨⟨c,ch,h1,h2,len,.inr (.inr ⟨i,hi',hin,hct,.inr (.inr (.inr (.inl ⟨rfl,rfl,hp,hin2,w⟩)))⟩)⟩,?_⟩
   unfold remG;simp only;rw [if_neg (by omega),if_neg (by omega),hi'];omega
  ·rw [if_pos (by unfold Lok.live;rw [l];rfl)]
   show Jv L n ck lo hi (x.next (x.told s)) (x.act s)∧remG n (x.next (x.told s))+1≤_
   have e2:x.act s=s.swap x.sa 1 (stateW x.g):=by unfold Lok.act;rw [if_neg (by omega),if_neg (by omega),if_neg (by omega),if_neg (by omega),if_pos l]
   have hp2:peek s.l (22+3 * i)=1:=by rw [w,want_st (Nat.le_refl _)];exact hp
   have e3:s.swap x.sa 1 (stateW x.g)=(s.poke (22+3 * i) (stateW ck)).note 3 (22+3 * i) (peek s.l (22+3 * i)) true:=by
    rw [hsa,hg,St.swap,if_pos]
    unfold St.can
    rw [hp2]
    simp [isAt]
    omega
   rw [e2,e3]
   unfold Lok.next
   rw [if_neg (by omega),if_neg (by omega),if_neg (by omega),if_neg (by omega),if_pos l]
   refine ⟨⟨c,ch,h1,h2,by show (poke _ _ _).length=200;rw [poke_lengthG];exact len,.inr (.inr ⟨i,hi',hin,hct,.inr (.inr (.inr (.inr ⟨.inl rfl,fun j=>?_⟩)))⟩)⟩,?_⟩
   ·show peek (poke s.l (22+3 * i) (stateW ck)) j=_
    rw [peek_pokeG,want_give hp hin2,w,len]
    by_cases e:j=22+3 * i
    ·rw [if_pos ⟨e,by omega,by omega⟩,if_pos e]
    ·rw [if_neg (fun h=>e h.1),if_neg e]
   ·unfold remG;simp only;rw [if_neg (by omega),if_neg (by omega),hi'];omega
  ·rw [if_pos (by unfold Lok.live;rcases l with l | l <;> rw [l] <;> rfl)]
   show Jv L n ck lo hi (x.next (x.told s)) (x.act s)∧remG n (x.next (x.told s))+1≤_
   have e2:(x.act s).l=s.l:=by
    unfold Lok.act;rw [if_neg (by omega),if_neg (by omega),if_neg (by omega),if_neg (by omega),if_neg (by omega)]
    split <;> rfl
   have w2:∀ j,peek (x.act s).l j=wantG L ck lo hi (i+1) j:=by rw [e2];exact w
   have len2:(x.act s).l.length=200:=by rw [e2];exact len
   generalize x.told s=v
   generalize x.act s=t at *
   unfold Lok.next
   rw [if_neg (by omega),if_neg (by omega),if_neg (by omega),if_neg (by omega),if_neg (by omega)]
   rcases l with l | l
   ·rw [if_pos l]
    split
    ·have:=jv_on (L:=L) (n:=n) (ck:=ck) (lo:=lo) (hi:=hi) (x:={ x with s:=v }) (s:=t) (i:=i) c ch h1 h2 len2 hi' hin hct w2
     exact ⟨this.1,by have:=this.2;omega⟩
    ·have:=jv_seven (L:=L) (n:=n) (ck:=ck) (lo:=lo) (hi:=hi) (x:={ x with s:=v }) (s:=t) (i:=i) c ch h1 h2 len2 hi' hin hct w2
     exact ⟨this.1,by have:=this.2;omega⟩
   ·rw [if_neg (by omega)]
    have:=jv_on (L:=L) (n:=n) (ck:=ck) (lo:=lo) (hi:=hi) (x:={ x with l:=putK x.l ⟨x.k,verW x.s,v⟩ }) (s:=t) (i:=i) c ch h1 h2 len2 hi' hin hct w2
    exact ⟨this.1,by have:=this.2;omega⟩
set_option maxRecDepth 100000
def layG (st ky:List Int) (s:St):Nat→St
 | 0=>s
 | k+1=>(((layG st ky s k).poke (22+3 * k) (st.getD k 0 % 9)).poke (22+3 * k+1) (ky.getD k 0 % 64)).poke (22+3 * k+2) (500+k)
def g0 (n:Nat) (ck:Int):St:=((Pl.begun 1 12 200).poke 1 ck).poke 16 n
theorem beg_len:(Pl.begun 1 12 200).l.length=200:=by decide +kernel
theorem beg_le:((Pl.begun 1 12 200).l.all fun v=>decide (v≤100000))=true:=by decide +kernel
theorem peek_le {l:List Int} {M:Int} (hM:0≤M) (h:(l.all fun v=>decide (v≤M))=true) (p:Int):peek l p≤M:=by
 rw [List.all_eq_true] at h
 unfold peek nth
 split
 ·rw [List.getD_eq_getElem?_getD]
  cases e:l[p.toNat]? with
  | none=>simpa using hM
  | some v=>have:=h v (List.mem_of_getElem? e);simpa using this
 ·omega
structure LayIs (ky:List Int) (n k:Nat) (ck:Int) (l:List Int):Prop where
 len:l.length=200
 cnt:peek l 16=n
 clk:peek l 1=ck
 key:∀ j:Nat,j<k→peek l (23+3 * j)=ky.getD j 0 % 64
 le:∀ p,peek l p≤100000
theorem lay_is (st ky:List Int) (n:Nat) (ck:Int) (hn:n≤10) (hc:0≤ck∧ck≤65535):∀ k,k≤n→LayIs ky n k ck (layG st ky (g0 n ck) k).l
 | 0,_=>by
  have l1:(poke (Pl.begun 1 12 200).l 1 ck).length=200:=by rw [poke_lengthG];exact beg_len
  refine ⟨?_,?_,?_,fun j h=>absurd h (by omega),fun p=>?_⟩
  ·show (poke (poke (Pl.begun 1 12 200).l 1 ck) 16 n).length=200
   rw [poke_lengthG];exact l1
  ·show peek (poke (poke (Pl.begun 1 12 200).l 1 ck) 16 n) 16=n
   rw [peek_pokeG,if_pos ⟨rfl,by omega,by rw [l1];omega⟩]
  ·show peek (poke (poke (Pl.begun 1 12 200).l 1 ck) 16 n) 1=ck
   rw [peek_pokeG,if_neg (by omega),peek_pokeG,if_pos ⟨rfl,by omega,by rw [beg_len];omega⟩]
  ·show peek (poke (poke (Pl.begun 1 12 200).l 1 ck) 16 n) p≤100000
   rw [peek_pokeG]
   split
   ·omega
   ·rw [peek_pokeG]
    split
    ·omega
    ·exact peek_le (by omega) beg_le p
 | k+1,hk=>by
  have h:=lay_is st ky n ck hn hc k (by omega)
  show LayIs ky n (k+1) ck (poke (poke (poke (layG st ky (g0 n ck) k).l (22+3 * k) (st.getD k 0 % 9)) (22+3 * k+1) (ky.getD k 0 % 64)) (22+3 * k+2) (500+k))
  generalize (layG st ky (g0 n ck) k).l=l at *
  obtain ⟨h1,h2,h3,h4,h5⟩:=h
  refine ⟨by rw [poke_lengthG,poke_lengthG,poke_lengthG];exact h1,?_,?_,fun j hj=>?_,fun p=>?_⟩
  ·rw [peek_pokeG,if_neg (by omega),peek_pokeG,if_neg (by omega),peek_pokeG,if_neg (by omega)];exact h2
  ·rw [peek_pokeG,if_neg (by omega),peek_pokeG,if_neg (by omega),peek_pokeG,if_neg (by omega)];exact h3
  ·rw [peek_pokeG,if_neg (by omega),peek_pokeG]
   by_cases e:j=k
   ·subst e;rw [if_pos ⟨by omega,by omega,by rw [poke_lengthG,h1];omega⟩]
   ·rw [if_neg (by omega),peek_pokeG,if_neg (by omega)];exact h4 j (by omega)
  ·rw [peek_pokeG]
   split
   ·omega
   ·rw [peek_pokeG]
    split
    ·omega
    ·rw [peek_pokeG]
     split
     ·omega
     ·exact h5 p
theorem want_le {L:List Int} {ck lo hi M:Int} (h:∀ p,peek L p≤M) (hs:stateW ck≤M):∀ k j,wantG L ck lo hi k j≤M
 | 0,j=>h j
 | k+1,j=>by
  unfold wantG
  split
  ·exact hs
  ·exact want_le h hs k j
theorem Jv.le {L:List Int} {n ck lo hi M:Int} {x:Lok} {s:St} (h:Jv L n ck lo hi x s) (hM:∀ p,peek L p≤M) (hs:stateW ck≤M) (p:Int):peek s.l p≤M:=by
 obtain ⟨-,-,-,-,-,h⟩:=h
 rcases h with ⟨-,w⟩ | ⟨-,w⟩ | ⟨i,-,-,-,h⟩
 ·rw [w];exact hM p
 ·rw [w];exact want_le hM hs _ _
 ·rcases h with ⟨-,w⟩ | ⟨-,-,w⟩ | ⟨-,-,-,w⟩ | ⟨-,-,-,-,w⟩ | ⟨-,w⟩ <;> (rw [w];exact want_le hM hs _ _)
theorem Jv.new {L:List Int} {n ck lo hi:Int} (s:St) (hs:s.l=L) (hl:L.length=200):Jv L n ck lo hi (Lok.new ⟨1,12,200,1000⟩ 15 lo hi 1073741824) s :=
 ⟨rfl,rfl,rfl,rfl,by rw [hs];exact hl,.inl ⟨rfl,fun j=>by rw [hs]⟩⟩
theorem Jv.rem {L:List Int} {n ck lo hi:Int} {x:Lok} {s:St} (h:Jv L n ck lo hi x s) (hn:0≤n) (hl:x.line≠0):1≤remG n x:=by
 obtain ⟨-,-,-,-,-,h⟩:=h
 unfold remG
 rw [if_neg hl]
 rcases h with ⟨l,-⟩ | ⟨l,-⟩ | ⟨i,e,hi,-,h⟩
 ·rw [if_pos l];omega
 ·exact absurd l hl
 ·rcases h with ⟨l,-⟩ | ⟨l,-⟩ | ⟨l,-⟩ | ⟨l,-⟩ | ⟨l | l,-⟩ <;> (rw [if_neg (by omega)];omega)
theorem Jv.done {L:List Int} {n ck lo hi:Int} {x:Lok} {s:St} (h:Jv L n ck lo hi x s) (hl:x.line=0) (j:Int):peek s.l j=wantG L ck lo hi n.toNat j:=by
 obtain ⟨-,-,-,-,-,h⟩:=h
 rcases h with ⟨l,-⟩ | ⟨l,w⟩ | ⟨i,e,hi,-,h⟩
 ·omega
 ·exact w j
 ·rcases h with ⟨l,-⟩ | ⟨l,-⟩ | ⟨l,-⟩ | ⟨l,-⟩ | ⟨l | l,-⟩ <;> omega
structure Lv (L:List Int) (n ck lo hi:Int) (x:Lok) (s:St):Prop where
 ok:LokOk x
 ks:LkS x
 l7:0≤x.line∧x.line≤7
 up:(x.l.Pairwise fun a b=>a.k<b.k)
 j:Jv L n ck lo hi x s
def LvR (L:List Int) (n ck lo hi:Int) (W:World) (b m p q:Nat) (v:Value) (wr:World):Prop :=
 ∃ (k n':Nat) (x:Lok) (s:St),v = .int .i64 (k:Nat)∧n'≤k∧(k:Int)+remG n x≤78∧x.line≠0∧Lv L n ck lo hi x s∧DkIs wr b m n' x∧Ar wr p q s∧Fr [b,m,p,q] W wr
def rise (l:List It):Prop:=l.Pairwise fun a b=>a.k<b.k
theorem mem_insK {z x:It}:∀ {l:List It},z∈insK l x→z=x∨z∈l
 | [],h=>by unfold insK at h;simpa using h
 | y :: r,h=>by
  unfold insK at h
  split at h
  ·rcases List.mem_cons.1 h with e | h
   ·exact .inr (by rw [e];simp)
   ·rcases mem_insK h with e | h
    ·exact .inl e
    ·exact .inr (by simp [h])
  ·rcases List.mem_cons.1 h with e | h
   ·exact .inl e
   ·exact .inr h
theorem rise_ins (x:It):∀ (l:List It),rise l→(∀ y∈l,y.k≠x.k)→rise (insK l x)
 | [],_,_=>by unfold insK rise;simp
 | y :: r,h,hx=>by
  unfold rise at h
  rw [List.pairwise_cons] at h
  unfold insK
  split
  ·rename_i h1
   unfold rise
   rw [List.pairwise_cons]
   refine ⟨fun z hz=>?_,rise_ins x r h.2 (fun z hz=>hx z (by simp [hz]))⟩
   rcases mem_insK hz with rfl | hz
   ·exact h1
   ·exact h.1 z hz
  ·rename_i h1
   have hy:=hx y (by simp)
   unfold rise
   rw [List.pairwise_cons,List.pairwise_cons]
   refine ⟨fun z hz=>?_,h⟩
   rcases List.mem_cons.1 hz with rfl | hz
   ·omega
   ·have:=h.1 z hz;omega
theorem rise_put {l:List It} (h:rise l) (x:It):rise (putK l x):=by
 unfold putK
 rcases item_key l x.k with ⟨h1,h2⟩ | ⟨i,y,h1,h2,-,h4⟩
 ·rw [h1]
  refine rise_ins x l h (fun z hz e=>?_)
  unfold keyG at h2
  rw [List.find?_eq_none] at h2
  have:=h2 z hz
  simp [e] at this
 ·rw [h1]
  unfold rise at h ⊢
  rw [List.pairwise_iff_getElem] at h ⊢
  intro a b ha hb hab
  simp only [List.length_set] at ha hb
  obtain ⟨hi,hy⟩:=List.getElem?_eq_some_iff.1 h2
  have hk:∀ c (hc:c<l.length),((l.set i x)[c]'(by simpa using hc)).k=(l[c]).k:=by
   intro c hc
   rw [List.getElem_set]
   split
   ·rename_i e;subst e;rw [hy,h4]
   ·rfl
  rw [hk a ha,hk b hb]
  exact h a b ha hb hab
theorem rise_step {x:Lok} (h:rise x.l) (s:St):rise (x.step s).1.l:=by
 unfold Lok.step
 split
 ·show rise (x.next _).l
  generalize x.told s=v
  unfold Lok.next
  split
  ·rw [on_l];exact h
  split
  ·split
   ·rw [on_l];exact h
   ·exact h
  split
  ·split
   ·rw [on_l];exact h
   ·split
    ·exact h
    ·rw [seven_l];exact h
  split
  ·exact h
  split
  ·exact h
  split
  ·split
   ·rw [on_l];exact h
   ·rw [seven_l];exact h
  ·rw [on_l];exact rise_put h _
 ·exact h
theorem Lv.step {L:List Int} {n ck lo hi:Int} {x:Lok} {s:St} (h:Lv L n ck lo hi x s) (hn:0≤n∧n≤10) (hc:peek L 16=n) (hk:peek L 1=ck) (hM:∀ p,peek L p≤100000) (hck:0≤ck∧ck≤65535) (hl:x.line≠0):Lv L n ck lo hi (x.step s).1 (x.step s).2∧remG n (x.step s).1+1≤remG n x:=by
 obtain ⟨h1,h2,h3,h4,h5⟩:=h
 obtain ⟨j1,j2⟩:=h5.step hn hc hk hl
 refine ⟨⟨h1.step s,h2.step s (fun p=>?_),?_,rise_step h4 s,j1⟩,j2⟩
 ·have:=h5.le (M:=100000000) (fun p=>by have:=hM p;omega) (by unfold stateW hd;omega) p
  omega
 ·unfold Lok.step
  split
  ·exact next_line _ _
  ·exact h3
theorem Lv.in64 {L:List Int} {n ck lo hi:Int} {x:Lok} {s:St} (h:Lv L n ck lo hi x s) (hM:∀ p,peek L p≤100000) (hck:0≤ck∧ck≤65535) (p:Int):peek s.l p≤9223372036854775807:=by
 have:=h.j.le (M:=100000000) (fun p=>by have:=hM p;omega) (by unfold stateW hd;omega) p
 omega
theorem Lv.new {L:List Int} {n ck lo hi:Int} (s:St) (hs:s.l=L) (hl:L.length=200) (h1:-9223372036854775808≤lo∧hi≤9223372036854775807):Lv L n ck lo hi (Lok.new ⟨1,12,200,1000⟩ 15 lo hi 1073741824) s :=
 ⟨LokOk.new ⟨by decide,by decide,by decide,by decide,by decide,by decide,by decide,by decide,by decide⟩ _ _ _ _,LkS.new _ _ _ _ _ h1,by simp [Lok.new],List.Pairwise.nil,Jv.new s hs hl⟩
set_option maxRecDepth 100000
def PlR (W:World) (v:Value) (wr:World):Prop:=∃ i:Nat,v = .int .i64 i∧i≤200∧wr=W
def CeR (L:List Int) (ck lo hi:Int) (n i:Nat) (W:World) (v c:Value) (wr:World):Prop:=∃ k:Nat,v = .int .i64 (wantG L ck lo hi k i)∧c = .int .i64 k∧k≤n∧wr=W
theorem in3 (L:List Int) (a b z:Int) (k:Nat) (h:peek L (23+3 * k)=z):(decide (a≤z)=true∧decide (z≤b)=true∧innG L a b k)∨(decide (a≤z)=true∧decide (z≤b)=false∧¬ innG L a b k)∨(decide (a≤z)=false∧True∧¬ innG L a b k):=by
 unfold innG
 rw [h]
 by_cases h1:a≤z
 ·by_cases h2:z≤b
  ·left;simp [h1,h2]
  ·right;left;simp [h1,h2]
 ·right;right;simp [h1]
def ItR (W:World) (n:Nat) (v:Value) (wr:World):Prop:=∃ i:Nat,v = .int .i64 ((i:Int)+1)∧(i+1≤n∨i=0)∧Fr [] W wr
theorem key_cell {w:World} {g off:Nat} {l:List It} (h:∀ (j:Nat) (u:Value),(l.flatMap fT)[j]? = some u→w.cell? ⟨g,off+j,none⟩=some u) {i:Nat} (hi:i<l.length):w.cell? ⟨g,off+i * 3,none⟩=some (.int .i64 (l[i]).k):=by
 have:=h (i * 3+0) (.int .i64 (l[i]).k) (by rw [fT_lays.at (List.getElem?_eq_getElem hi) (by omega)];rfl)
 simpa using this
def PkR (W:World) (p q:Nat) (st ky:List Int) (s:St) (v:Value) (wr:World):Prop:=∃ k:Nat,v = .int .i64 k∧k≤st.length∧Ar wr p q (layG st ky s k)∧Fr [p,q] W wr
theorem u8_in {zs:List Int} (h:∀ n∈zs,(Lit.int .u8 n).wf=true) {k:Nat} (hk:k<zs.length):0≤zs.getD k 0∧zs.getD k 0≤255:=by
 exact bounds_u8 (h (zs.getD k 0) (by rw [List.getD_eq_getElem?_getD,List.getElem?_eq_getElem hk];exact List.getElem_mem hk))
theorem conf12 (w:World):Calls Tryd.prog 5 #[.int .i64 1,.int .i64 12,.int .i64 200] w fun e w'=>e = .returned (.agg #[.int .i64 1,.int .i64 12,.int .i64 200,.int .i64 1000])∧Fr [] w w':=Pl.conf_any 1 12 200 w
def c2:Cf:=⟨1,12,200,1000⟩
def x2 (a b:Int):Lok:=Lok.new c2 15 a b 1073741824
theorem dnew2 (a b:Int) (w:World):Calls Tryd.prog 11 #[.agg #[.int .i64 1,.int .i64 12,.int .i64 200,.int .i64 1000],.int .i64 15,.int .i64 a,.int .i64 b,.int .i64 1073741824] w fun e w'=>∃ B m,e = .returned (.pointer (some ⟨B,0,none⟩))∧w.heap.size≤B∧w.heap.size≤m∧B≠m∧DkIs w' B m 0 (x2 a b)∧Fr [] w w':=dnew_any c2 15 a b 1073741824 w
theorem gives_any (sv kv:Value) (st ky:List Int) (ck lo hi:Int) (w:World) (t:Word.Tab w) (hS:Law.Ints w .u8 sv st) (hK:Law.Ints w .u8 kv ky) (hck:0≤ck∧ck≤65535) (hlo:0≤lo∧lo≤255) (hhi:0≤hi∧hi≤255) :
  Calls Tryd.prog 3 #[sv,kv,.int .u16 ck,.int .u8 lo,.int .u8 hi] w fun e w'=>e = .returned (.bool true)∧Fr [] w w':=by
 obtain ⟨a1,c1,rfl,hm1,hw1,hS⟩:=hS
 obtain ⟨a2,c2,rfl,hm2,hw2,hK⟩:=hK
 have HK:=Lib.hid (known_true w t)
 have HR:=Lib.hid (And.intro hS hK)
 have isE:=Er.isE
 clear hS hK
 go_enter Tryd.func3,Tryd.ntmps3
 go_wp2_with fail
 refine HK.out.mono ?_;rintro e w0 ⟨rfl,G⟩
 clear HK
 by_cases h10:st.length≤10
 case neg =>
  have g1:decide ((st.length:Int)>10)=true:=by simp;omega
  have g2:decide (st.length>10)=true:=by simp;omega
  have g3:decide ((10:Int)<(st.length:Int))=true:=by simp;omega
  clear h10
  go_wp2_with fail
  go_ret
  exact ⟨rfl,G⟩
 have g1:decide ((st.length:Int)>10)=false:=by simp;omega
 have g2:decide (st.length>10)=false:=by simp;omega
 have g3:decide ((10:Int)<(st.length:Int))=false:=by simp;omega
 by_cases hlk:st.length≤ky.length
 case neg =>
  have k1:decide ((ky.length:Int)<(st.length:Int))=true:=by simp;omega
  have k2:decide (ky.length<st.length)=true:=by simp;omega
  clear h10
  go_wp2_with fail
  go_ret
  exact ⟨rfl,G⟩
 have k1:decide ((ky.length:Int)<(st.length:Int))=false:=by simp;omega
 have k2:decide (ky.length<st.length)=false:=by simp;omega
 have HL:=Lib.hid (And.intro h10 hlk)
 have HW:=Lib.hid (And.intro hw1 hw2)
 have HM:=Lib.hid (And.intro hm1 hm2)
 clear h10 hlk hw1 hw2 hm1 hm2
 go_wp2_with fail
 refine (conf12 _).mono ?_;rintro e w1 ⟨rfl,F1⟩
 have hw1:=(G.trans F1).size
 replace G:=(G.trans F1).alloc (.cells #[.int .i64 1,.int .i64 12,.int .i64 200,.int .i64 1000] 26)
 have oc:=Ob.new w1 26 #[.int .i64 1,.int .i64 12,.int .i64 200,.int .i64 1000]
 obtain ⟨c0,c1,c2,c3⟩:=Pl.cells4 oc
 have hcw:=oc.lt
 clear F1
 go_wp2_with fail
 refine (Pl.make_yes 1 12 200 1000 (by decide) _).mono ?_;rintro e w2 ⟨p,q,rfl,hp,hq,A,F2⟩
 rw [sizeA] at hp hq
 replace oc:=oc.up F2
 have hcw2:=oc.lt
 have hA2:=A.lt
 replace G:=G.trans F2
 have hG:=G.size
 clear F2 c0 c1 c2 c3
 generalize hbc:w1.heap.size=bc at *
 have nqc:bc≠q:=by omega
 have npc:bc≠p:=by omega
 have hwq:w.heap.size≤q:=by omega
 have hwp:w.heap.size≤p:=by omega
 obtain ⟨d0,d1,d2,d3⟩:=Pl.cells4 oc
 go_wp2_with fail
 refine (Pl.first_any 1 12 200 1000 (by decide) (by decide) _).mono ?_;rintro e w3 ⟨rfl,F3⟩
 replace A:=A.kept F3
 replace oc:=oc.up F3
 replace G:=G.trans F3
 clear F3 d0 d1 d2 d3 hG hA2 hcw2 hcw
 rw [show (3+1+4+7:Int)=15 by decide]
 go_wp2_with fail
 refine (poke_any _ p q _ _ _ A).mono ?_;rintro e w4 ⟨rfl,A2,F2⟩
 clear A
 have A:=A2
 clear A2
 replace oc:=oc.kept F2 (by simpa using nqc)
 replace G:=G.own F2 (by simpa using hwq)
 clear F2
 go_wp2_with fail
 refine (poke_any _ p q _ _ _ A).mono ?_;rintro e w5 ⟨rfl,A2,F2⟩
 clear A
 have A:Ar w5 p q (((Pl.begun 1 12 200).poke 1 ck).poke 16 st.length):=A2
 clear A2
 replace oc:=oc.kept F2 (by simpa using nqc)
 replace G:=G.own F2 (by simpa using hwq)
 clear F2
 have HO:=Lib.hid oc
 clear oc
 have hwp5:w.heap.size≤w5.heap.size:=G.size
 have HQ:=Lib.hid (And.intro hwp (And.intro hwq hwp5))
 have HB:=Lib.hid (And.intro hck (And.intro hlo hhi))
 go_wp2_with fail
 go_loopw [17] (PkR w5 p q st ky (g0 st.length ck)) (fun v _=>st.length - (intOf v).toNat)
 case atStart=>exact ⟨0,rfl,by omega,A,Fr.refl _ _⟩
 ·obtain ⟨k,rfl,hk,A2,F2⟩:=hrel
  by_cases hkn:k<st.length
  ·have g4:decide ((k:Int)<(st.length:Int))=true:=by simp;omega
   have z1:=HR.out.1
   have z2:=HR.out.2
   have hl2:=HL.out.2
   have hl1:=HL.out.1
   obtain h0 | ⟨b1,o1,rfl,hb1,hc1⟩:=z1
   ·omega
   obtain h0 | ⟨b2,o2,rfl,hb2,hc2⟩:=z2
   ·omega
   have hs9:0≤st.getD k 0∧st.getD k 0≤255:=u8_in HW.out.1 hkn
   have hk9:0≤ky.getD k 0∧ky.getD k 0≤255:=u8_in HW.out.2 (by omega)
   have G2:Fr [p,q] w wr:=(G.mono).trans F2
   have x1:=G2.cell (hc1 k hkn) (by simp;omega)
   have x2:=G2.cell (hc2 k (by omega)) (by simp;omega)
   have HA:=Lib.hid (And.intro A2 F2)
   clear A2 F2 hc1 hc2 G2
   have hlm1:=HM.out.1
   have hlm2:=HM.out.2
   generalize hsk:st.getD k 0=sk at *
   generalize hkk:ky.getD k 0=kk at *
   have HE:=Lib.hid (And.intro hsk hkk)
   clear hsk hkk
   go_wp2_with fail
   refine wp_region_env (by kernel_rfl) [p,q] (fun w6 F6=>?_)
   refine epq [true,true,true,true,true,true,true,true,true,true,false] 1 (F6.mono) ?_
   apply Exists.intro
   refine ⟨fun wf Ff=>?_,?_⟩
   ·have y1:=Ff.cell x1 (by simp;omega)
    have k1:=In.cell y1
    clear y1
    simp only [sel]
    repeat (go_big_quiet_step ((go_at_call 9;exact Calls.in_same (Pl.state_any 15 k (by decide) (by decide) (by omega) (by omega) _))))
    exact wpQuiet_nil rfl
   refine eoq 10 (fun w7 F7=>?_)
   have E7:=F6.then F7
   have A7:=HA.out.1.kept E7
   clear x1 F6 F7
   go_wp2_with fail
   refine (poke_any _ p q _ _ _ A7).mono ?_;rintro e w8 ⟨rfl,A8,F8⟩
   have E8:Fr [p,q] wr w8:=(E7.mono).trans (F8.mono)
   clear A7 F8 E7
   go_wp2_with fail
   refine nx_normal ⟨E8,?_⟩
   refine env_done (by kernel_rfl) (fun w9 F9=>?_)
   have E9:=E8.then F9
   have A9:=A8.kept F9
   replace x2:=E9.cell x2 (by simp;omega)
   clear E8 F9 A8
   go_wp2_with fail
   refine wp_region_env (by kernel_rfl) [p,q] (fun w10 F10=>?_)
   refine epq [true,true,true,true,true,true,true,true,true,true,true,false] 1 (F10.mono) ?_
   apply Exists.intro
   refine ⟨fun wf Ff=>?_,?_⟩
   ·have y1:=Ff.cell x2 (by simp;omega)
    have k1:=In.cell y1
    clear y1
    simp only [sel]
    repeat (go_big_quiet_step ((go_at_call 9;exact Calls.in_same (Pl.state_any 15 k (by decide) (by decide) (by omega) (by omega) _))))
    exact wpQuiet_nil rfl
   refine eoq 11 (fun w11 F11=>?_)
   have E11:=F10.then F11
   have A11:=A9.kept E11
   clear x2 F10 F11 A9
   go_wp2_with fail
   refine (poke_any _ p q _ _ _ A11).mono ?_;rintro e w12 ⟨rfl,A12,F12⟩
   have E12:Fr [p,q] w9 w12:=(E11.mono).trans (F12.mono)
   clear A11 F12 E11
   go_wp2_with fail
   refine nx_normal ⟨E12,?_⟩
   refine env_done (by kernel_rfl) (fun w13 F13=>?_)
   have E13:=(E9.trans E12).then F13
   have A13:=A12.kept F13
   clear E12 F13 A12 E9
   go_wp2_with fail
   refine (Pl.state_any 15 k (by decide) (by decide) (by omega) (by omega) _).mono ?_;rintro e _ ⟨rfl,rfl⟩
   go_wp2_with fail
   refine (poke_any _ p q _ _ _ A13).mono ?_;rintro e w14 ⟨rfl,A14,F14⟩
   have E14:Fr [p,q] wr w14:=E13.trans (F14.mono)
   clear A13 F14 E13
   go_wp2_with fail
   go_roundw
   case rel =>
    refine ⟨k+1,rfl,hkn,?_,HA.out.2.trans E14⟩
    obtain ⟨e1,e2⟩:=HE.out
    show Ar w14 p q ((((layG st ky (g0 st.length ck) k).poke (22+3 * k) (st.getD k 0 % 9)).poke (22+3 * k+1) (ky.getD k 0 % 64)).poke (22+3 * k+2) (500+k))
    rw [e1,e2]
    exact A14
   case measure=>simp [intOf];omega
  ·obtain rfl:k=st.length:=by omega
   have g4:decide ((st.length:Int)<(st.length:Int))=false:=by simp
   have HA:=Lib.hid (And.intro A2 F2)
   clear A2 F2
   go_wp2_with fail
   refine (copy_any _ p q _ HA.out.1).mono ?_;rintro e w6 ⟨p2,q2,rfl,hp2,hq2,A2,F6⟩
   have E6:Fr [p,q] w5 w6:=HA.out.2.then F6
   have A6:=HA.out.1.kept F6
   have hlt6:=HA.out.1.lt
   obtain ⟨d0,d1,d2,d3⟩:=Pl.cells4 (HO.out.kept E6 (by simp;omega))
   have hl6:=A2.lt
   have HX:=Lib.hid (And.intro A2 (And.intro A6 E6))
   clear A2 A6 E6 F6
   generalize hsn:layG st ky (g0 st.length ck) st.length=sn at *
   go_wp2_with fail
   refine (dnew2 (lo % 64) (hi % 64) _).mono ?_;rintro e w7 ⟨b,m,rfl,hb,hm,nbm,D,F7⟩
   have HY:=Lib.hid (And.intro (HX.out.1.kept F7 (by simp) (by simp)) (And.intro (HX.out.2.1.kept F7 (by simp) (by simp)) (And.intro (HX.out.2.2.then F7) hsn)))
   clear hsn F7 d0 d1 d2 d3 HX
   have hnm:=HL.out.1
   have HN:=Lib.hid (show b≠p∧b≠q∧b≠m∧m≠p∧m≠q from ⟨by omega,by omega,nbm,by omega,by omega⟩)
   have LY:=lay_is st ky st.length ck hnm hck st.length (Nat.le_refl _)
   rw [HY.out.2.2.2] at LY
   have V0:Lv sn.l st.length ck (lo % 64) (hi % 64) (x2 (lo % 64) (hi % 64)) sn:=Lv.new sn rfl LY.len ⟨by omega,by omega⟩
   have A0:=HY.out.2.1
   have t0:=tabK t (G.own HY.out.2.2.1 (by simp;exact ⟨hwp,hwq⟩)) (by simp)
   have hbt:=tabLt t
   have HT:=Lib.hid (And.intro t0 (show 0≠b∧0≠m∧0≠p∧0≠q by omega))
   have HLY:=Lib.hid LY
   have HBN:=Lib.hid (And.intro hb (And.intro hm (And.intro hp2 (And.intro hq2 (And.intro hl6 hlt6)))))
   clear t0 hbt LY hb hm nbm hp2 hq2 hl6 hlt6
   go_wp2_with fail
   go_loopw [20] (LvR sn.l st.length ck (lo % 64) (hi % 64) w7 b m p q) (fun v _=>200 - (intOf v).toNat)
   case atStart=>exact ⟨0,0,_,_,rfl,Nat.le_refl _,by unfold remG;rw [if_neg (by simp [x2,Lok.new]),if_pos (by simp [x2,Lok.new])];omega,by simp [x2,Lok.new],V0,D,A0,Fr.refl _ _⟩
   ·obtain ⟨k,n',x,s,rfl,hnk,hr,hl0,V,D2,A2,F2⟩:=hrel
    have h1r:=V.j.rem (by omega) hl0
    have g5:decide ((k:Int)<200)=true:=by simp;omega
    have HS:=Lib.hid (dstep_any x V.ok V.ks V.l7 b m n' p q s (V.in64 HLY.out.le hck) _ (tabK HT.out.1 F2 (by simp;exact HT.out.2)) HT.out.2.2.2 (by omega) HN.out D2 A2)
    have HV:=Lib.hid (V.step ⟨by omega,by omega⟩ HLY.out.cnt HLY.out.clk HLY.out.le hck hl0)
    clear V D2 A2 V0 D A0
    go_wp2_with fail
    refine HS.out.mono ?_;rintro e w9 ⟨rfl,⟨n2,hn2,D3⟩,A3,F3⟩
    have F4:=F2.trans F3
    obtain ⟨V3,hr3⟩:=HV.out
    clear HS HV F3 F2
    generalize (x.step s).1=y at *
    generalize (x.step s).2=s' at *
    by_cases hy:y.line=0
    ·have g6:decide (y.line=0)=true:=by simp [hy]
     have HI:=Lib.hid (ditems_any y V3.up b m n2 (by omega) w9 D3)
     have HV:=Lib.hid (And.intro V3 (And.intro hy (And.intro A3 F4)))
     obtain ⟨zb,zm,zp,zq,zl,zt⟩:=HBN.out
     have B2:=HY.out.1.kept F4 (by simp;omega) (by simp;omega)
     have FW:Fr [b,m,p,q] w w9:=(((G.mono).trans (HY.out.2.2.1.mono (by simp))).trans F4)
     have hlen:s'.l.length=200:=V3.j.len
     have HZ:=Lib.hid (And.intro A3 (And.intro B2 (And.intro FW hlen)))
     have hbw:w.heap.size≤b∧w.heap.size≤m:=by omega
     have HBW:=Lib.hid hbw
     clear V3 hy A3 F4 D3 hr3 hr h1r zb zm zp zq zl zt B2 FW hlen hbw
     go_wp2_with fail
     go_loopw [21] (PlR w9) (fun v _=>200 - (intOf v).toNat)
     case atStart=>exact ⟨0,rfl,by omega,rfl⟩
     ·obtain ⟨i,rfl,hile,rfl⟩:=hrel
      go_wp2_with fail
      refine (len_any _ p q s' HZ.out.1).mono ?_;rintro e _ ⟨rfl,rfl⟩
      rw [HZ.out.2.2.2]
      by_cases hi2:i<200
      ·have g7:decide ((i:Int)<200)=true:=by simp;omega
       go_wp2_with fail
       refine (peek_any _ p2 q2 sn _ HZ.out.2.1).mono ?_;rintro e _ ⟨rfl,rfl⟩
       go_wp2_with fail
       go_loopw [22,23] (CeR sn.l ck (lo % 64) (hi % 64) st.length i wr) (fun _ v _=>st.length - (intOf v).toNat)
       case atStart=>exact ⟨0,rfl,rfl,by omega,rfl⟩
       ·obtain ⟨k2,rfl,rfl,hk2,rfl⟩:=hrel
        by_cases hkn:k2<st.length
        ·have g8:decide ((k2:Int)<(st.length:Int))=true:=by simp;omega
         have z2:=HR.out.2
         have zl2:=HL.out.2
         have zl1:=HL.out.1
         obtain h0 | ⟨b2,o2,rfl,hb2,hc2⟩:=z2
         ·omega
         have hk9:0≤ky.getD k2 0∧ky.getD k2 0≤255:=u8_in HW.out.2 (by omega)
         have x2:=HZ.out.2.2.1.cell (hc2 k2 (by omega)) (by have:=HBW.out;simp;omega)
         have zkey:=HLY.out.key k2 hkn
         have zm2:=HM.out.2
         clear hc2
         generalize hkk:ky.getD k2 0=kk at *
         have c3:=in3 sn.l (lo % 64) (hi % 64) (kk % 64) k2 zkey
         have HE:=Lib.hid (And.intro hkk zkey)
         clear hkk zkey
         have HWN:=Lib.hid (show wantG sn.l ck (lo % 64) (hi % 64) (k2+1) i=if (i:Int)=22+3 * k2∧wantG sn.l ck (lo % 64) (hi % 64) k2 i=1∧innG sn.l (lo % 64) (hi % 64) k2 then stateW ck else wantG sn.l ck (lo % 64) (hi % 64) k2 i from rfl)
         generalize wantG sn.l ck (lo % 64) (hi % 64) k2 i=wv at *
         obtain ⟨r1,r2,r3⟩ | ⟨r1,r2,r3⟩ | ⟨r1,r2,r3⟩:=c3
         ·have HIN:=Lib.hid r3
          clear r3
          go_wp2_with fail
          refine (Pl.state_any 15 k2 (by decide) (by decide) (by omega) (by omega) _).mono ?_;rintro e _ ⟨rfl,rfl⟩
          by_cases hE:(i:Int)=22+3 * k2
          ·have e1:((i:Int) == 22+3 * (k2:Int))=true:=by rw [beq_iff_eq];exact hE
           by_cases hV:wv=1
           ·have e2:(wv == 1)=true:=by rw [beq_iff_eq];exact hV
            have HP:=Lib.hid (And.intro hE hV)
            clear hE hV
            go_wp2_with fail
            refine (Mx.state_any ck _).mono ?_;rintro e _ ⟨rfl,rfl⟩
            go_wp2_with fail
            go_roundw
            case rel=>exact ⟨k2+1,by rw [HWN.out,if_pos ⟨HP.out.1,HP.out.2,HIN.out⟩],rfl,by omega,rfl⟩
            case measure=>simp [intOf];omega
           ·have e2:(wv == 1)=false:=by simpa using hV
            have HP:=Lib.hid (And.intro hE hV)
            clear hE hV
            go_wp2_with fail
            go_roundw
            case rel=>exact ⟨k2+1,by rw [HWN.out,if_neg (fun h=>HP.out.2 h.2.1)],rfl,by omega,rfl⟩
            case measure=>simp [intOf];omega
          ·have e1:((i:Int) == 22+3 * (k2:Int))=false:=by rw [beq_eq_false_iff_ne];exact hE
           have HP:=Lib.hid hE
           clear hE
           go_wp2_with fail
           go_roundw
           case rel=>exact ⟨k2+1,by rw [HWN.out,if_neg (fun h=>HP.out h.1)],rfl,by omega,rfl⟩
           case measure=>simp [intOf];omega
         ·have HIN:=Lib.hid r3
          clear r3
          go_wp2_with fail
          refine (Pl.state_any 15 k2 (by decide) (by decide) (by omega) (by omega) _).mono ?_;rintro e _ ⟨rfl,rfl⟩
          by_cases hE:(i:Int)=22+3 * k2
          ·have e1:((i:Int) == 22+3 * (k2:Int))=true:=by rw [beq_iff_eq];exact hE
           by_cases hV:wv=1
           ·have e2:(wv == 1)=true:=by rw [beq_iff_eq];exact hV
            have HP:=Lib.hid (And.intro hE hV)
            clear hE hV
            go_wp2_with fail
            go_roundw
            case rel=>exact ⟨k2+1,by rw [HWN.out,if_neg (fun h=>HIN.out h.2.2)],rfl,by omega,rfl⟩
            case measure=>simp [intOf];omega
           ·have e2:(wv == 1)=false:=by simpa using hV
            have HP:=Lib.hid (And.intro hE hV)
            clear hE hV
            go_wp2_with fail
            go_roundw
            case rel=>exact ⟨k2+1,by rw [HWN.out,if_neg (fun h=>HP.out.2 h.2.1)],rfl,by omega,rfl⟩
            case measure=>simp [intOf];omega
          ·have e1:((i:Int) == 22+3 * (k2:Int))=false:=by rw [beq_eq_false_iff_ne];exact hE
           have HP:=Lib.hid hE
           clear hE
           go_wp2_with fail
           go_roundw
           case rel=>exact ⟨k2+1,by rw [HWN.out,if_neg (fun h=>HP.out h.1)],rfl,by omega,rfl⟩
           case measure=>simp [intOf];omega
         ·have HIN:=Lib.hid r3
          clear r3
          go_wp2_with fail
          refine (Pl.state_any 15 k2 (by decide) (by decide) (by omega) (by omega) _).mono ?_;rintro e _ ⟨rfl,rfl⟩
          by_cases hE:(i:Int)=22+3 * k2
          ·have e1:((i:Int) == 22+3 * (k2:Int))=true:=by rw [beq_iff_eq];exact hE
           by_cases hV:wv=1
           ·have e2:(wv == 1)=true:=by rw [beq_iff_eq];exact hV
            have HP:=Lib.hid (And.intro hE hV)
            clear hE hV
            go_wp2_with fail
            go_roundw
            case rel=>exact ⟨k2+1,by rw [HWN.out,if_neg (fun h=>HIN.out h.2.2)],rfl,by omega,rfl⟩
            case measure=>simp [intOf];omega
           ·have e2:(wv == 1)=false:=by simpa using hV
            have HP:=Lib.hid (And.intro hE hV)
            clear hE hV
            go_wp2_with fail
            go_roundw
            case rel=>exact ⟨k2+1,by rw [HWN.out,if_neg (fun h=>HP.out.2 h.2.1)],rfl,by omega,rfl⟩
            case measure=>simp [intOf];omega
          ·have e1:((i:Int) == 22+3 * (k2:Int))=false:=by rw [beq_eq_false_iff_ne];exact hE
           have HP:=Lib.hid hE
           clear hE
           go_wp2_with fail
           go_roundw
           case rel=>exact ⟨k2+1,by rw [HWN.out,if_neg (fun h=>HP.out h.1)],rfl,by omega,rfl⟩
           case measure=>simp [intOf];omega
        ·obtain rfl:k2=st.length:=by omega
         have g8:decide ((st.length:Int)<(st.length:Int))=false:=by simp
         have hfin:=HV.out.1.j.done HV.out.2.1 i
         rw [Int.toNat_natCast] at hfin
         go_wp2_with fail
         refine (peek_any _ p q s' _ HZ.out.1).mono ?_;rintro e _ ⟨rfl,rfl⟩
         rw [hfin]
         clear hfin
         generalize wantG sn.l ck (lo % 64) (hi % 64) st.length i=wv
         have e2:(wv != wv)=false:=by simp
         go_wp2_with fail
         go_roundw
         case rel=>exact ⟨i+1,rfl,by omega,rfl⟩
         case measure=>simp [intOf];omega
      ·obtain rfl:i=200:=by omega
       have g7:decide ((200:Int)<200)=false:=by decide
       go_wp2_with fail
       refine HI.out.mono ?_;rintro e w10 ⟨u,rfl,hu,F10⟩
       obtain ⟨a3,c3,rfl,hc3,hm3,hh3⟩:=Sq.own (f:=fT) hu
       have F10':Fr [b,m,p,q] w w10:=HZ.out.2.2.1.then F10
       have HF:=Lib.hid F10'
       have hup:=HV.out.1.up
       have hl16:y.l.length≤16:=by have:=HV.out.1.ok.len;have:=HV.out.1.ok.i1;omega
       have HU:=Lib.hid (And.intro hup hh3)
       clear hu HI F10 F10' hup hh3
       generalize y.l=yl at *
       go_wp2_with fail
       go_loopw [26] (ItR w10 yl.length) (fun v _=>yl.length - (intOf v).toNat)
       case atStart=>exact ⟨0,rfl,.inr rfl,Fr.refl _ _⟩
       ·obtain ⟨j,rfl,hj,hF⟩:=hrel
        by_cases hj2:j+1<yl.length
        ·have g9:decide ((j:Int)+1<(yl.length:Int))=true:=by simp;omega
         obtain ⟨hup,hh3⟩:=HU.out
         obtain h0 | ⟨b3,o3,rfl,hb3,hc4⟩:=hh3
         ·omega
         have y1:=hF.cell (key_cell hc4 (show j<yl.length by omega)) (by simp)
         have y2:=hF.cell (key_cell hc4 (show j+1<yl.length by omega)) (by simp)
         have hlt:=(List.pairwise_iff_getElem.1 hup) j (j+1) (by omega) hj2 (by omega)
         generalize (yl[j]'(by omega)).k=ka at *
         generalize (yl[j+1]).k=kb at *
         have g10:decide (kb≤ka)=false:=by simp;omega
         clear hup hc4
         go_wp2_with fail
         refine wiq ?_
         have q1:=In.cell y1
         have q2:=In.cell y2
         repeat (go_big_quiet_step (fail))
         refine wpQuiet_nil ?_
         intro w11 F11
         go_wp2_with fail
         go_roundw
         case rel=>exact ⟨j+1,rfl,.inl (by omega),hF.trans F11⟩
         case measure=>simp [intOf];omega
        ·have g9:decide ((j:Int)+1<(yl.length:Int))=false:=by simp;omega
         go_wp2_with fail
         go_ret
         exact ⟨rfl,(Fr.refl [] w).own (HF.out.then hF) (by have:=HBW.out;simp;omega)⟩
    ·have g6:decide (y.line=0)=false:=by simp [hy]
     go_wp2_with fail
     go_roundw
     case rel=>exact ⟨k+1,n2,y,s',rfl,by omega,by push_cast;omega,hy,V3,D3,A3,F4⟩
     case measure=>simp [intOf];omega
end Go.Proofs.YtilipdnchflkhaaDoor.Dk
