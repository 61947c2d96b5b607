/- Texts that this proof leans on, one behind the other: Dk7, Dk8. -/
import Derived.Test.YtjhefbenmhmbcaaDoorQat
import Derived.Test.YtjhefbenmhmbcaaDoorQbb
import Derived.Sort.MapsRangeIn
set_option linter.unusedVariables false
set_option linter.unusedSimpArgs false
set_option maxRecDepth 100000
set_option maxHeartbeats 12800000
namespace Go.Proofs.YtjhefbenmhmbcaaDoor.Dk
open Go.RowKit Go.Maps Go.Sort Go.Shelf Go.Proofs.YtjhefbenmhmbcaaDoor.Ar Go.Proofs.YtjhefbenmhmbcaaDoor.Mx Go.Proofs.YtjhefbenmhmbcaaDoor.Vw Go.Proofs.YtjhefbenmhmbcaaDoor.Ch Go.Proofs.YtjhefbenmhmbcaaDoor.Kp
def cfK (x y:It):Int:=cfZ x.k y.k
theorem cfK_lt {x y:It}:cfK x y<0↔x.k<y.k:=by
 unfold cfK cfZ
 split
 ·omega
 ·split <;> omega
theorem cfK_swo:SWO (fun x y:It=>decide (cfK x y<0)) where
 irrefl x:=by simp [cfK_lt]
 trans x y z h1 h2:=by simp only [decide_eq_true_eq,cfK_lt] at *;omega
 ntrans x y z h1 h2:=by simp only [decide_eq_false_iff_not,cfK_lt] at *;omega
theorem dcmp_any (x y:It) (w:World):Calls Tryd.prog 39 #[.agg (fT x).toArray,.agg (fT y).toArray] w fun e w'=>e = .returned (.int .i64 (cfK x y))∧Dr.Fr [] w w':=by
 have B1:=Go.heap_alloc_new (w.alloc (.cells (fT x).toArray 26)) (.cells (fT y).toArray 26)
 have B0:=(Below.heap_alloc (w.alloc (.cells (fT x).toArray 26)) (.cells (fT y).toArray 26) w.heap.size (by simp)).trans (Go.heap_alloc_new w (.cells (fT x).toArray 26))
 have F0:Dr.Fr [] w ((w.alloc (.cells (fT x).toArray 26)).alloc (.cells (fT y).toArray 26)):=((Dr.Fr.refl _ _).alloc _).alloc _
 rw [show (w.alloc (.cells (fT x).toArray 26)).heap.size=w.heap.size+1 by simp] at B1
 obtain ⟨a0,-,-⟩:=cells3 B0
 obtain ⟨b0,-,-⟩:=cells3 B1
 clear B0 B1
 go_enter Tryd.func39,Tryd.ntmps39
 go_wp2_with fail
 refine (cmp_any x.k y.k _).mono ?_;rintro e w1 ⟨rfl,rfl⟩
 go_wp2
 go_ret
 exact ⟨rfl,F0⟩
theorem dcmpLays (blk off size:Nat) (w:World):CmpLays Tryd.prog 39 #[] fT 3 cfK blk off size w :=
 fun m os dk _ x y=>(dcmp_any x y _).mono fun e w' h=>⟨h.1,h.2.grow⟩
theorem len64_0 (w:World):Calls Tryd.prog 76 #[.int .u64 0] w fun e w'=>e = .returned (.int .i64 0)∧w'=w:=by
 go_enter Tryd.func76,Tryd.ntmps76
 go_wp2
 go_ret
 exact ⟨by kernel_rfl,rfl⟩
theorem len_0 (w:World):Calls Tryd.prog 66 #[.int .u64 0] w fun e w'=>e = .returned (.int .i64 0)∧w'=w:=by
 go_enter Tryd.func66,Tryd.ntmps66
 go_wp2_with fail
 refine (len64_0 _).mono ?_;rintro e w1 ⟨rfl,rfl⟩
 go_wp2
 go_ret
 exact ⟨rfl,rfl⟩
theorem insk_nil (w:World) (c:Value):Calls Tryd.prog 67 #[.slice none 0 0,.int .i64 0,.int .i64 0,c] w fun e w'=>e = .returned (.tuple #[])∧w'=w:=by
 go_enter Tryd.func67,Tryd.ntmps67
 go_wp2
 go_loopw [8] (fun x wr=>x = .int .i64 1∧wr=w) (fun _ _=>0)
 case atStart=>exact ⟨rfl,rfl⟩
 ·obtain ⟨rfl,rfl⟩:=hrel
  go_wp2
  go_end0
  exact ⟨rfl,rfl⟩
theorem pdq_nil (w:World) (c:Value):Calls Tryd.prog 65 #[.slice none 0 0,.int .i64 0,.int .i64 0,.int .i64 0,c] w fun e w'=>e = .returned (.tuple #[])∧w'=w:=by
 go_enter Tryd.func65,Tryd.ntmps65
 go_wp2
 go_loopw [1,2,3] (fun a b l wr=>a = .int .i64 0∧b = .int .i64 0∧l = .int .i64 0∧wr=w) (fun _ _ _ _=>0)
 case atStart=>exact ⟨rfl,rfl,rfl,rfl⟩
 ·obtain ⟨rfl,rfl,rfl,rfl⟩:=hrel
  go_wp2_with fail
  refine (insk_nil _ _).mono ?_;rintro e w1 ⟨rfl,rfl⟩
  go_wp2
  refine bodyPost_ret (results_none rfl _ _ _) rfl ?_
  exact ⟨rfl,rfl⟩
theorem sf_nil (w:World) (c:Value):Calls Tryd.prog 58 #[.slice none 0 0,c] w fun e w'=>e = .returned (.tuple #[])∧w'=w:=by
 go_enter Tryd.func58,Tryd.ntmps58
 go_wp2_with fail
 refine (len_0 _).mono ?_;rintro e w1 ⟨rfl,rfl⟩
 go_wp2_with fail
 refine (pdq_nil _ c).mono ?_;rintro e w1 ⟨rfl,rfl⟩
 go_wp2
 go_end0
 exact ⟨rfl,rfl⟩
theorem dsfn_any (u:Value) (xs:List It) (w:World) (B:Nat) (h:w.ownsRow B 26 3 u xs.length (xs.flatMap fT)) (hl:xs.length≤1000) :
  Calls Tryd.prog 58 #[u,.func (.func 39) #[] #[]] w fun e w' =>
   e = .returned (.tuple #[])∧∃ c:List It,c.Perm xs∧(c.Pairwise fun a b=>a.k≤b.k)∧w'.ownsRow B 26 3 u c.length (c.flatMap fT)∧Ar.Fr u.ownBlock.toList w w':=by
 rcases h.2 with ⟨rfl,h0⟩ | ⟨g,cap,cur,rfl,hbase,hb,h1,h2,h3,h4⟩
 ·obtain rfl:=List.eq_nil_of_length_eq_zero h0
  refine Calls.mono (sf_nil w _) ?_
  rintro e w' ⟨rfl,rfl⟩
  exact ⟨rfl,[],List.Perm.refl _,List.Pairwise.nil,h,Ar.Fr.refl _ _⟩
 ·have R:=rowK_of hb h4
  have H:=AnyQ.slices_SortFunc Tryd.sortF 3 (by intro w;kernel_rfl) (by intro w;kernel_rfl) fT (fun _=>rfl) R.h1 cfK cfK_swo 39 #[] g 0 cap xs.toArray w (enters_of Tryd.func39 (by kernel_rfl) rfl) (dcmpLays g 0 _ w) R.hH R.hblk (by simp;omega)
  refine Calls.mono H ?_
  rintro e w' ⟨rfl,d',n,os,hp,hs,rfl⟩
  have hsz:d'.size=xs.length:=by have:=hp.1;simpa using this
  obtain ⟨o1,o2⟩:=own_swk hbase hb h1 h2 h3 (⟨n,os,rfl⟩:SWK fT 3 w g 0 d' _) hsz
  refine ⟨rfl,d'.toList,?_,?_,?_,o2.mono (by simp [Value.ownBlock])⟩
  ·have:=hp.2.2
   rw [show (d'.extract 0 xs.toArray.size)=d' by rw [show xs.toArray.size=d'.size by simp [hsz]];simp,show (xs.toArray.extract 0 xs.toArray.size)=xs.toArray by simp] at this
   simpa using this
  ·rw [List.pairwise_iff_getElem]
   intro i j hi hj hij
   simp at hi hj
   have:=hs i j (Nat.zero_le _) hij (by simp;omega)
   simp only [ltOf,decide_eq_false_iff_not,cfK_lt] at this
   simp [hi,hj] at this
   exact this
  ·rw [show d'.toList.length=xs.length by simp [hsz]];exact o1
theorem dsfunc_any (g:Nat) (lb:Array Value) (eg:∀ args w,(callFunc g args).run Tryd.prog w = .ok (.enter g args) w) (S:List It→Prop) (N:Nat) (hN:N≤1000) (w:World) (hseq:Feeds 3 Tryd.prog g lb ApT.enc S N w) (hS:∀ ss,S ss→ss.length≤1000) :
  Calls Tryd.prog 37 #[.func (.func g) #[] lb,.func (.func 39) #[] #[]] w fun e w'=>∃ u ss c,e = .returned u∧S ss∧List.Perm c ss∧(List.Pairwise (fun a b:It=>a.k≤b.k) c)∧w'.ownsRow w.heap.size 26 3 u c.length (c.flatMap fT)∧Ar.Fr [] w w':=by
 have H:=callsIn_wide.1 (ApT.collect 5 (by omega) g lb eg S N hN w hseq)
 clear hseq
 go_enter Tryd.func37,Tryd.ntmps37
 go_wp2_with fail
 refine H.mono ?_
 rintro e w1 ⟨u,ss,rfl,hs,hrow,hb⟩
 have H2:=dsfn_any u ss w1 w.heap.size hrow (hS ss hs)
 have F1:=ApT.fr_of hb
 have HO:=Lib.hid (own_lt hrow)
 clear H hrow hb
 go_wp2_with fail
 refine H2.mono ?_
 rintro e w2 ⟨rfl,c,hp,hc,hrow2,F2⟩
 have F3:=F1.own F2 HO.out
 have HC:=Lib.hid (And.intro hp hc)
 clear H2 hp hc
 go_wp2_with fail
 go_ret
 exact ⟨u,ss,c,rfl,hs,HC.out.1,HC.out.2,hrow2,F3⟩
structure ColI (g:Int→Option It) (left:Lit→Bool) (ss:List It):Prop where
 mem:∀ x,x∈ss↔g x.k=some x∧left (.int .i64 x.k)=false
 apart:ss.Pairwise fun a b=>a.k≠b.k
theorem same_int (a b:Int):(Lit.int .i64 a).sameKey (.int .i64 b)=true↔a=b:=by
 unfold Lit.sameKey
 simp
theorem ColI.step {g:Int→Option It} {left:Lit→Bool} {ss:List It} (h:ColI g left ss) (hg:∀ k y,g k=some y→y.k=k) {x:It} (hx:g x.k=some x) (hl:left (.int .i64 x.k)=true):ColI g (fun z=>left z && !z.sameKey (.int .i64 x.k)) (ss++[x]):=by
 constructor
 ·intro y
  rw [List.mem_append,h.mem]
  simp only [List.mem_singleton,Bool.and_eq_false_iff,Bool.not_eq_false']
  constructor
  ·rintro (⟨h1,h2⟩ | rfl)
   ·exact ⟨h1,.inl h2⟩
   ·exact ⟨hx,.inr ((same_int _ _).2 rfl)⟩
  ·rintro ⟨h1,h2 | h2⟩
   ·exact .inl ⟨h1,h2⟩
   ·rw [(same_int _ _).1 h2,hx] at h1
    exact .inr (Option.some.inj h1).symm
 ·rw [List.pairwise_append]
  refine ⟨h.apart,by simp,fun a ha b hb=>?_⟩
  simp only [List.mem_singleton] at hb
  subst hb
  intro e1
  have:=((h.mem a).1 ha).2
  rw [e1,hl] at this
  cases this
theorem only_of {g:Int→Option It} (hg:∀ k y,g k=some y→y.k=k) {D:DataW Value} (hD:HoldsV D (mapG g)) {kv c:Value} {kl:Lit} (hk:keyOf Tryd.prog 3 kv=some kl) (hat:∀ zd,D.atKey kl zd = .held c):∃ x,g x.k=some x∧kl = .int .i64 x.k∧c=itV x:=by
 obtain ⟨k,-,rfl,-⟩:=Maps.keyOf_int_inv Tryd.underlying3 hk
 have h1:=has_true_of_atKey hat
 rw [(hD.2 k).1] at h1
 obtain ⟨v,hv⟩:=Option.isSome_iff_exists.1 h1
 have h2:=(hD.2 k).2 v hv (.held c)
 rw [hat] at h2
 unfold mapG at hv
 obtain ⟨x,hx,rfl⟩:=Option.map_eq_some_iff.1 hv
 refine ⟨x,?_,?_,?_⟩
 ·rw [hg _ _ hx];exact hx
 ·rw [hg _ _ hx]
 ·cases h2;rfl
theorem valuesI_any (b:Nat) (w:World):Calls Tryd.prog 38 #[.map (some b)] w fun e w'=>e = .returned (.func (.func 59) #[] #[.pointer (some ⟨w.heap.size,0,none⟩)])∧w'=w.alloc (.cells #[.map (some b)] 47):=by
 go_enter Tryd.func38,Tryd.ntmps38
 go_wp2_with fail
 go_ret
 exact ⟨rfl,rfl⟩
theorem feedsI (n:Nat) (hn:1≤n) (Bm b nn:Nat) (g:Int→Option It) (hg:∀ k y,g k=some y→y.k=k) (w:World) (hm:w.cell? ⟨Bm,0,none⟩=some (.map (some b))) (h:GMap w b nn (mapG g)) :
  Feeds n Tryd.prog 59 #[.pointer (some ⟨Bm,0,none⟩)] ApT.enc (fun ys=>(∀ x,x∈ys↔g x.k=some x)∧(ys.Pairwise fun a b=>a.k≠b.k)∧ys.length≤nn) nn w:=by
 intro l J W hW hJ hB hY h0
 have hm0:=(ApT.fr_of hW).cell hm (by simp)
 obtain ⟨D,hown0,hD⟩:=h
 have hsz:=hown0.size_le
 have hown:W.ownsMap Tryd.prog 3 asIs b nn D:=by
  have hbl:=hown0.lt
  obtain ⟨es,clock,hb,Ft,hs,hDD⟩:=hown0
  exact ⟨es,clock,(hW.block b hbl).trans hb,Ft,hs,hDD⟩
 clear hown0 hm
 refine callsIn_of_wp Tryd.func59 rfl trivial ?_ rfl
 simp only [Tryd.ntmps59,List.size_toArray,List.length_cons,List.length_nil,Nat.reduceAdd,Nat.reduceSub,Array.replicate_succ,Array.replicate_zero,List.push_toArray,List.append_toArray,List.nil_append,List.cons_append]
 gi_wp2_with (first
  | (gi_at_range;refine wpListIn_range_own _ rfl _ 47 rfl 3 26 intKeyV Tryd.underlying47 _ b nn _ rfl hown ?_;intro w0 hrg0 hg0 hs0)
  | gi_in)
 go_frame
 gi_loopw [4] (fun _ wr=>∃ (left:Lit→Bool) (cnt:Nat) (ss:List It),wr.ranges Tryd.prog 3 asIs b W.heap.size nn D left cnt∧ss.length+cnt≤Maps.size D∧ColI g left ss∧J ss wr)
  (fun _ wr=>wr.rangeLeft b W.heap.size)
 case atStart =>
  exact ⟨_,_,[],hrg0,by simp,⟨fun x=>⟨fun h=>by simp at h,fun ⟨h1,h2⟩=>by rw [(hD.2 x.k).1] at h2;unfold mapG at h2;rw [h1] at h2;cases h2⟩,List.Pairwise.nil⟩,hJ [] W w0 none h0 hg0 (fun r e=>by cases e)⟩
 ·obtain ⟨left,cnt,ss,hrg,hcs,hC,hJs⟩:=hrel
  gi_wp2_with (first
   | (gi_at_next;refine wpListIn_next_ranges _ rfl _ rfl 3 intKeyV asIs (id:Value→Value) (id:Value→Value) (fun key kl hk=>⟨key,rfl⟩) (fun v _ _=>⟨v,rfl⟩) b W.heap.size nn _ _ _ rfl hrg ?_ ?_)
   | gi_in)
  ·intro hc0 hl0
   gi_wp2
   go_end0
   exact ⟨⟨_,rfl⟩,ss,⟨fun x=>by rw [hC.mem,hl0];simp,hC.apart,by omega⟩,hJs⟩
  ·intro kv c kl yd yp w2 cnt2 hkey hlk hv hat hrg2 hlt hg2 hs2 hen
   obtain rfl:yd = .held c:=by unfold asIs at hv;simp at hv;exact hv.1.symm
   obtain ⟨x,hx,rfl,rfl⟩:=only_of hg hD hkey hat
   have hJ2:J ss w2:=hJ ss wr w2 (some W.heap.size) hJs hg2 (fun r e=>by cases e;exact ⟨Nat.le_refl _,hrg.iter_walk⟩)
   have hJ3:J ss (w2.alloc (.cells #[.int .i64 x.k,.int .i64 x.v,.int .i64 x.d] 26)):=hJ ss w2 _ none hJ2 (World.grownBy_alloc w2 _ none) (fun r e=>by cases e)
   have hC2:=hC.step hg hx hlk
   obtain ⟨fn,tmps,assign,bdy,hy,hR⟩:=hY ss x _ hJ3 (by omega)
   have hrg5:=hrg2.of_walks (KeepsWalks.alloc w2 (.cells #[.int .i64 x.k,.int .i64 x.v,.int .i64 x.d] 26))
   unfold itV at hen
   unfold ApT.enc at hy
   clear hs2 hg2 hJ2 hJ3 hJs hv hat hx
   gi_wp2
   refine hR.mono ?_
   rintro e W3 ⟨rfl,hJ4,hk3⟩
   gi_wp2
   have hrg3:=hrg5.of_walks hk3
   go_roundw
   case rel=>exact ⟨_,cnt2,ss++[x],hrg3,by simp;omega,hC2,hJ4⟩
   case measure=>rw [hrg3.left_eq,hrg.left_eq];exact hlt
theorem keyG_key (l:List It) (k:Int) (y:It) (h:keyG l k=some y):y.k=k:=by
 unfold keyG at h
 have:=List.find?_some h
 simpa using this
theorem sorted_ext:∀ (c l:List It),(c.Pairwise fun a b=>a.k<b.k)→(l.Pairwise fun a b=>a.k<b.k)→(∀ x,x∈c↔x∈l)→c=l
 | [],[],_,_,_=>rfl
 | [],y :: r,_,_,h=>by have:=(h y).2 (by simp);simp at this
 | x :: c,[],_,_,h=>by have:=(h x).1 (by simp);simp at this
 | x :: c,y :: r,h1,h2,h=>by
  rw [List.pairwise_cons] at h1 h2
  have hx:=(h x).1 (by simp)
  have hy:=(h y).2 (by simp)
  rw [List.mem_cons] at hx hy
  have e:x=y:=by
   rcases hx with e | hx
   ·exact e
   ·rcases hy with e | hy
    ·exact e.symm
    ·have a1:=h2.1 x hx
     have a2:=h1.1 y hy
     omega
  subst e
  congr 1
  refine sorted_ext c r h1.2 h2.2 fun z=>?_
  have hz:=h z
  rw [List.mem_cons,List.mem_cons] at hz
  constructor
  ·intro a
   rcases hz.1 (.inr a) with e | a2
   ·have:=h1.1 z a;rw [e] at this;omega
   ·exact a2
  ·intro a
   rcases hz.2 (.inr a) with e | a2
   ·have:=h2.1 z a;rw [e] at this;omega
   ·exact a2
theorem sorted_of {l c:List It} (hl:l.Pairwise fun a b=>a.k<b.k) {ss:List It} (hm:∀ x,x∈ss↔keyG l x.k=some x) (ha:ss.Pairwise fun a b=>a.k≠b.k) (hp:c.Perm ss) (hc:c.Pairwise fun a b=>a.k≤b.k):c=l:=by
 have hlm:∀ x,keyG l x.k=some x↔x∈l:=by
  intro x
  constructor
  ·intro h;exact List.mem_of_find?_eq_some h
  ·intro h
   rcases item_key l x.k with ⟨-,h2⟩ | ⟨i,y,-,h3,h4,h5⟩
   ·unfold keyG at h2
    rw [List.find?_eq_none] at h2
    have:=h2 x h
    simp at this
   ·rw [h4]
    have hy:y∈l:=List.mem_of_getElem? h3
    congr 1
    refine Classical.byContradiction fun hne=>?_
    rcases List.mem_iff_getElem.1 hy with ⟨i1,h1,rfl⟩
    rcases List.mem_iff_getElem.1 h with ⟨i2,h2,rfl⟩
    have hll:=List.pairwise_iff_getElem.1 hl
    by_cases e:i1<i2
    ·have:=hll i1 i2 h1 h2 e;omega
    ·by_cases e2:i2<i1
     ·have:=hll i2 i1 h2 h1 e2;omega
     ·obtain rfl:i1=i2:=by omega
      exact hne rfl
 have hca:c.Pairwise fun a b=>a.k≠b.k:=hp.symm.pairwise ha (fun {a b} h=>h.symm)
 have hcs:c.Pairwise fun a b=>a.k<b.k:=by
  rw [List.pairwise_iff_getElem] at hc hca ⊢
  intro i j hi hj hij
  have h1:=hc i j hi hj hij
  have h2:=hca i j hi hj hij
  omega
 have hmem:∀ x,x∈c↔x∈l:=fun x=>by rw [hp.mem_iff,hm,hlm]
 exact sorted_ext c l hcs hl hmem
end Go.Proofs.YtjhefbenmhmbcaaDoor.Dk
