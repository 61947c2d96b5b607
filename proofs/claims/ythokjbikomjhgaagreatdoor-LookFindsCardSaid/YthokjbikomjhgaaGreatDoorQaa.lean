/- Parts. -/
import Derived.Test.YthokjbikomjhgaaGreatDoorVac
import Derived.Test.YthokjbikomjhgaaGreatDoorVad
import Derived.Test.YthokjbikomjhgaaGreatDoorVaa
import Derived.Maps.OwnSet
import Derived.Maps.Views
import Derived.Test.YthokjbikomjhgaaGreatDoorVaf
import Derived.Carry
import Derived.Sort.Grow
import Derived.Test.YthokjbikomjhgaaGreatDoorVay
import Derived.Test.YthokjbikomjhgaaGreatDoorChecked
import Derived.Deep.RegionWith
import Derived.Test.YthokjbikomjhgaaGreatDoorIter8
import Derived.Shelf.SlSortCmp.WholeK
import Derived.RangeFuncBound
import Derived.Shelf.SlIterI.Collect
import Derived.Test.YthokjbikomjhgaaGreatDoorVan
set_option linter.unusedVariables false
set_option linter.unusedSimpArgs false
set_option maxRecDepth 100000
namespace Go.Proofs.YthokjbikomjhgaaGreatDoor
theorem A0h {p:Prop} (h:p:=by simp [results,Tryz.results42,go_sem,e0,e1,e2]):p:=h
theorem A0d {p:Prop} (h:p:=by unfold Lok.live; rw [l]; rfl):p:=h
theorem A0e {p:Prop} (h:p:=by simp;exact ⟨hbp,hbq⟩):p:=h
theorem A0f {p:Prop} (h:p:=by simp;exact ⟨hmp,hmq⟩):p:=h
theorem A0g {p:Prop} (h:p:=by simp;exact hbm.symm):p:=h
theorem A0j {p:Prop} (h:p:=by simpa using nqc):p:=h
theorem A0k {p:Prop} (h:p:=by simpa using hwq):p:=h
theorem A0i {p:Prop} (h:p:=by simp [maxLen]):p:=h
theorem A0m {p:Prop} (h:p:=by simp; omega):p:=h
theorem A09 {p:Prop} (h:p:=by kernel_rfl):p:=h
theorem A0l {p:Prop} (h:p:=by simp;omega):p:=h
theorem A0c {p:Prop} (h:p:=by decide):p:=h
theorem A0a {p:Prop} (h:p:=by omega):p:=h
theorem A0b {p:Prop} (h:p:=by simp):p:=h
theorem Po {p:Prop} (h:p:=by
  have r5:=qo HR.out.1 F5;have x0':=F5.cell x0 A0b;have F12:=(Fr.refl [] w5).alloc (.cells #[.int .i64 x.k] 3);have B12:=Go.heap_alloc_new w5 (.cells #[.int .i64 x.k] 3);have r12:=qo r5 F12;have HG:=q9 ((HR.out.2.trans F5).trans F12);clear x0 r5 F12 F5;go_wp2_with (at_builtin;refine qq vq rfl _ _ 25 rfl Tryz.underlying25 q7t rfl (B:=w1.heap.size) _ out rfl r12 _ [x.k] rfl (Sq.block B12 rfl rfl (Nat.le_refl _) A0i) A0l A0c HG.out.size ?_;intro a21 c21 w21 r21 f21);have HR2:=q9 (show w21.ownsRow w1.heap.size 3 1 (.slice a21 (out.length+1) c21) (out++[x.k]).length ((out++[x.k]).flatMap fI) by rw [show (Value.slice a21 (out++[x.k]).length c21)=Value.slice a21 (out.length+1) c21 by simp] at r21;exact r21);have HG2:=q9 (HG.out.own f21 (z8 r12));clear r21 f21 r12 B12;go_wp2_with fail;go_roundw;case rel=>exact ⟨i+1,by omega,by simp,by rw [HS.out,HN.out];simp;omega,by rw [HS.out,HN.out];exact HR2.out,HG2.out⟩
  case measure=>simp;omega
 ):p:=h
theorem Pp {p:Prop} (h:p:=by
  go_wp2_with fail;refine R7 A09 A09 ?_;have k0:=qb x0;have k1:=qb x1;have l1:=qb y1;repeat (go_big_quiet_step (fail))
  refine wpQuiet_nil ?_;intro w1 F1;clear k0 k1 l1;go_wp2_with fail;go_roundw;case rel=>exact ⟨i+1,by omega,by simp,.inr ⟨j,c,by rw [HS.out,HO.out.1,lat1_old (fun hh=>by omega)],rfl,HO.out.2⟩,F1.heap HQ.out.1 A0b,HQ.out.2.trans F1⟩
  case measure=>simp;omega
 ):p:=h
theorem Pq {p:Prop} (h:p:=by
  have u3:=Tryz.underlying3;have a3:(isAgg 3).run Tryz.prog W = .ok false W:=by kernel_rfl
  have hS:Tryz.prog.underlying 74=some (.struct (Tryz.prog.fieldsOf 74)):=by kernel_rfl
  have hp:Tryz.prog.stoodInHeld 74=false:=by kernel_rfl
  rw [run_eql_struct,show (10000:Nat)=9999+1 from rfl,run_equalIn_agg W 9999 74 _ _ hS hp];simp only [Program.fieldsOf,Tryz.underlying74];go_simp;cases h1:k == k' <;> cases h2:i == i' <;> cases h3:o == o' <;> simp_all
 ):p:=h
theorem Ps {p:Prop} (h:p:=by
  go_wp2_with fail;refine R7 A09 A09 ?_;have k0:=qb x0;have k1:=qb x1;repeat (go_big_quiet_step (fail))
  refine wpQuiet_nil ?_;intro w1 F1;clear k0 k1;go_wp2_with fail;go_roundw;case rel=>exact ⟨i+1,by omega,by simp,.inl ⟨by rw [HS.out,HO.out,lat1_old (fun hh=>by omega)],rfl⟩,F1.heap HQ.out.1 A0b,HQ.out.2.trans F1⟩
  case measure=>simp;omega
 ):p:=h
theorem Pu {p:Prop} (h:p:=by
  clear e1 e2;go_enter Tryz.func158,Tryz.ntmps158;go_wp2_with fail;refine R7 A09 A09 ?_;have k2:=qb c2;have k3:=qb c3;have k9:=qb c9;clear c2 c3 c8 c9;repeat (go_big_quiet_step (fail))
  refine wpQuiet_nil ?_;intro w1 F1;go_wp2_with fail;refine (HN.out _ (h.up F1)).mono ?_;rintro e w2 ⟨rfl,h2,F2⟩;exact A08
 ):p:=h
theorem Pv {p:Prop} (h:p:=by
  go_wp2;go_ret;exact ⟨rfl,h7,A6.kept F7 (by simp;exact hbp.symm) (by simp;exact hbq.symm),⟨n,Nat.le_succ n,m6.kept F7 A0g⟩,zm D6 F7 A0b⟩
 ):p:=h
theorem Pw {p:Prop} (h:p:=by
  clear c0 c8 c9 c11;repeat (go_big_quiet_step (fail))
  refine wpQuiet_nil ?_;intro w1 F1;go_wp2_with fail;refine (Vx y HB.out.1 HB.out.2 b m _ (h.up F1)).mono ?_;rintro e w2 ⟨rfl,h2,F2⟩;exact A08
 ):p:=h
theorem Px {p:Prop} (h:p:=by
  obtain ⟨t0,t1,t2,t3,t4,t5,t6,t7,t8,t9,t10,t11⟩:=t;exact ⟨f.cell t0 h,f.cell t1 h,f.cell t2 h,f.cell t3 h,f.cell t4 h,f.cell t5 h,f.cell t6 h,f.cell t7 h,f.cell t8 h,f.cell t9 h,f.cell t10 h,f.cell t11 h⟩
 ):p:=h
theorem Py {p:Prop} (h:p:=by
  generalize qw s.l x=pv at *;go_wp2_with fail;go_roundw;case rel=>exact ⟨i+1,by omega,by go_num,by rw [HN.out],HF.out⟩
  case measure=>simp [RowKit.intOf];omega
  all_goals (exfalso;omega)
 ):p:=h
theorem Pz {p:Prop} (h:p:=by
  go_wp2_with (go_at_call 169;refine (isNaN_any _ _).mono ?_;rintro e w' ⟨rfl,rfl⟩);go_ret;exact ⟨by simp [h1,h2],rfl⟩
 ):p:=h
theorem A00 {p:Prop} (h:p:=by
  simp only;repeat' split
  all_goals first | exact ln_load h _ | exact ln_store h _ _ | exact ln_add h _ _ | exact ln_swap h _ _ _
 ):p:=h
theorem A01 {p:Prop} (h:p:=by
  refine wpQuiet_nil ?_;intro w2 F2;clear k0 d0 d1 d2 d3 HZ;go_wp2;go_ret;exact ⟨rfl,F0.trans F2⟩
 ):p:=h
theorem A02 {p:Prop} (h:p:=by
  simp only;repeat' split
  all_goals first | exact ln_load h _ | exact ln_store h _ _ | exact ln_swap h _ _ _
 ):p:=h
theorem A03 {p:Prop} (h:p:=by
  clear hc e1;go_enter Tryz.func157,Tryz.ntmps157;go_wp2;go_ret;exact ⟨rfl,h,Fr.refl _ _⟩
 ):p:=h
theorem A04 {p:Prop} (h:p:=by
  simp only;repeat' split
  all_goals first | exact ln_load h _ | exact ln_swap h _ _ _
 ):p:=h
theorem A05 {p:Prop} (h:p:=by
  exact ⟨x.i,fun _=>rfl,rfl,fun _=>rfl⟩
 ):p:=h
theorem A06 {p:Prop} (h:p:=by
  simp only [sel];repeat (go_big_quiet_step (fail))
  exact wpQuiet_nil rfl
 ):p:=h
theorem A07 {p:Prop} (h:p:=by
  have:t % 3<(fT x).length:=by show _<3;omega
  simp [this]
 ):p:=h
theorem A08 {p:Prop} (h:p:=by
  go_wp2;go_ret;exact ⟨rfl,h2,(F1.mono A0b).trans F2⟩
 ):p:=h
end Go.Proofs.YthokjbikomjhgaaGreatDoor
namespace Go.Proofs.YthokjbikomjhgaaGreatDoor.Ar
end Go.Proofs.YthokjbikomjhgaaGreatDoor.Ar
namespace Go.Proofs.YthokjbikomjhgaaGreatDoor
end Go.Proofs.YthokjbikomjhgaaGreatDoor
namespace Go.Proofs.YthokjbikomjhgaaGreatDoor.Mx
end Go.Proofs.YthokjbikomjhgaaGreatDoor.Mx
namespace Go.Proofs.YthokjbikomjhgaaGreatDoor
end Go.Proofs.YthokjbikomjhgaaGreatDoor
namespace Go.Proofs.YthokjbikomjhgaaGreatDoor.Ref
end Go.Proofs.YthokjbikomjhgaaGreatDoor.Ref
namespace Go.Proofs.YthokjbikomjhgaaGreatDoor
end Go.Proofs.YthokjbikomjhgaaGreatDoor
namespace Go.Proofs.YthokjbikomjhgaaGreatDoor.Og
end Go.Proofs.YthokjbikomjhgaaGreatDoor.Og
namespace Go.Proofs.YthokjbikomjhgaaGreatDoor
end Go.Proofs.YthokjbikomjhgaaGreatDoor
namespace Go.Proofs.YthokjbikomjhgaaGreatDoor.Op10
end Go.Proofs.YthokjbikomjhgaaGreatDoor.Op10
namespace Go.Proofs.YthokjbikomjhgaaGreatDoor
end Go.Proofs.YthokjbikomjhgaaGreatDoor
namespace Go.Proofs.YthokjbikomjhgaaGreatDoor.Mp
end Go.Proofs.YthokjbikomjhgaaGreatDoor.Mp
namespace Go.Proofs.YthokjbikomjhgaaGreatDoor
end Go.Proofs.YthokjbikomjhgaaGreatDoor
namespace Go.Proofs.YthokjbikomjhgaaGreatDoor.Vw
open Go.RowKit Go.Proofs.YthokjbikomjhgaaGreatDoor.Ar Go.Proofs.YthokjbikomjhgaaGreatDoor.Mx
set_option linter.unusedVariables false
set_option linter.unusedSimpArgs false
theorem qc0 (s:Int) (w:World):Calls Tryz.prog 162 #[.int .i64 s] w fun e w'=>e = .returned (.int .i64 (verV s))∧w=w':=by
 by_cases c:s<3
 all_goals
  go_enter Tryz.func162,Tryz.ntmps162
  go_wp2
  go_ret
  exact q19 (by unfold verV;first | (rw [qf A0a];done) | (rw [qd A0a];done))
end Go.Proofs.YthokjbikomjhgaaGreatDoor.Vw
namespace Go.Proofs.YthokjbikomjhgaaGreatDoor.Vw
open Go.RowKit Go.Proofs.YthokjbikomjhgaaGreatDoor.Ar Go.Proofs.YthokjbikomjhgaaGreatDoor.Mx
set_option linter.unusedVariables false
set_option linter.unusedSimpArgs false
def Z8 (n:Nat) (c at_:Int):Bool:=decide (0≤at_) && decide (at_≤n - (7+3 * c))
end Go.Proofs.YthokjbikomjhgaaGreatDoor.Vw
namespace Go.Proofs.YthokjbikomjhgaaGreatDoor.Vw
open Go.RowKit Go.Proofs.YthokjbikomjhgaaGreatDoor.Ar Go.Proofs.YthokjbikomjhgaaGreatDoor.Mx
set_option linter.unusedVariables false
set_option linter.unusedSimpArgs false
theorem qea {n:Nat} {c a:Int} (h:Z8 n c a=true):0≤a∧a≤n - (7+3 * c):=by unfold Z8 at h;simpa using h
end Go.Proofs.YthokjbikomjhgaaGreatDoor.Vw
namespace Go.Proofs.YthokjbikomjhgaaGreatDoor.Ar
open Go.RowKit Go.Maps
def asIs (v:Value):Option (DataW Value×List MemPlace):=some (.held v,[])
def ik (k:Nat):Lit:=.int .i64 k
theorem intKeyV:Keyed Tryz.prog 3:=int_keyed Tryz.underlying3
def cnt (D:DataW Value):Nat→Nat
 | 0=>0
 | n+1=>cnt D n+if has D (ik n) then 1 else 0
theorem fr_grown_some {w w':World} {b:Nat} (h:w.grownBy w' (some b)):Fr [b] w w':=⟨h.os,h.tape,h.output,h.size,fun k hk hn=>h.block k hk (fun e=>hn (by cases e;simp))⟩
end Go.Proofs.YthokjbikomjhgaaGreatDoor.Ar
namespace Go.Proofs.YthokjbikomjhgaaGreatDoor.Ar
open Go.RowKit Go.Maps
def HoldsV (D:DataW Value) (g:Int→Option Value):Prop :=
 IsMap D∧∀ k:Int,has D (.int .i64 k)=(g k).isSome∧∀ v,g k=some v→∀ zd,D.atKey (.int .i64 k) zd = .held v
def GMap (w:World) (b n:Nat) (g:Int→Option Value):Prop:=∃ D,w.ownsMap Tryz.prog 3 asIs b n D∧HoldsV D g
theorem holdsV_empty:HoldsV (.map []) (fun _=>none):=⟨isMap_empty,fun k=>⟨rfl,fun v h=>by cases h⟩⟩
theorem HoldsV.put {D:DataW Value} {g:Int→Option Value} (h:HoldsV D g) (k:Int) (v:Value):HoldsV (D.put (.int .i64 k) (.held v)) (fun x=>if x=k then some v else g x):=by
 obtain ⟨hm,hg⟩:=h;refine ⟨hm.put _ _,fun x=>?_⟩;by_cases hx:x=k
 ·subst hx;have hk:WideAt.IsKeyLit (.int .i64 x):=trivial;exact ⟨by rw [has_put_same hm hk];simp,fun u hu zd=>by simp at hu;subst hu;exact atKey_put_same hm hk _ _⟩
 ·have hne:(Lit.int .i64 x)≠Lit.int .i64 k:=fun e=>hx (by cases e;rfl)
  simp only [qd hx];rw [has_put_other hne];exact ⟨(hg x).1,fun u hu zd=>by rw [atKey_put_other hne];exact (hg x).2 u hu zd⟩
theorem GMap.made (w:World):GMap (w.alloc (.map #[] 0)) w.heap.size 0 (fun _=>none):=⟨_,World.ownsMap_made w _ _ _,holdsV_empty⟩
theorem GMap.kept {w w':World} {b n:Nat} {g:Int→Option Value} {S:List Nat} (h:GMap w b n g) (f:Fr S w w') (hb:b∉S):GMap w' b n g:=by obtain ⟨D,⟨es,clock,h1,h2⟩,hD⟩:=h;exact ⟨D,⟨es,clock,f.heap h1 hb,h2⟩,hD⟩
theorem GMap.up {w w':World} {b n:Nat} {g:Int→Option Value} (h:GMap w b n g) (f:Fr [] w w'):GMap w' b n g:=h.kept f A0b
theorem GMap.lt {w:World} {b n:Nat} {g:Int→Option Value} (h:GMap w b n g):b<w.heap.size:=by obtain ⟨D,h1,_⟩:=h;exact h1.lt
theorem GMap.put {w:World} {b n:Nat} {g:Int→Option Value} (h:GMap w b n g) {t e:TypeId} (ht:Tryz.prog.underlying t=some (.map 3 e)) (hn:n<maxLen) {k:Int} (hk:(Lit.int .i64 k).wf=true) (v:Value) :
  ∃ w',(Instr.mapUpdate t (.map (some b)) (.int .i64 k) v).run Tryz.prog w = .ok () w'∧GMap w' b (n+1) (fun x=>if x=k then some v else g x)∧Fr [b] w w':=by
 obtain ⟨D,h1,hD⟩:=h;obtain ⟨w',r1,r2,r3⟩:=h1.update intKeyV ht hn (keyOf_int_mk Tryz.underlying3 hk) (show asIs v=some (.held v,[]) from rfl);exact ⟨w',r1,⟨_,r2,hD.put k v⟩,fr_grown_some r3⟩
theorem GMap.look {w:World} {b n:Nat} {g:Int→Option Value} (h:GMap w b n g) {t e:TypeId} (ht:Tryz.prog.underlying t=some (.map 3 e)) {z:Value} (hz:(zeroValue e).run Tryz.prog w = .ok z w) {k:Int} (hk:(Lit.int .i64 k).wf=true) (c:Bool) :
  (Instr.lookup t (.map (some b)) (.int .i64 k) c).run Tryz.prog w = .ok (if c then .tuple #[(g k).getD z,.bool (g k).isSome] else (g k).getD z) w:=by
 obtain ⟨D,⟨es,clock,hb,F,hs,hDe⟩,hD⟩:=h;obtain ⟨hh,hv⟩:=hD.2 k;rcases Maps.fit_look c intKeyV ht hz hb F (keyOf_int_mk Tryz.underlying3 hk) with ⟨hrun,_,hat⟩ | ⟨e0,y,_,_,hrun,hRv,hat,_⟩
 ·rw [← hDe] at hat;rw [has_false_of_atKey hat] at hh;rw [show g k=none by cases hg:g k with | none=>rfl | some v=>rw [hg] at hh;simp at hh];simpa using hrun
 ·rw [← hDe] at hat;rw [has_true_of_atKey hat] at hh;obtain ⟨v,hg⟩:∃ v,g k=some v:=by cases hg:g k with | none=>rw [hg] at hh;simp at hh | some v=>exact ⟨v,rfl⟩
  have hy:y=(.held e0.val,[]):=by unfold asIs at hRv;exact (qi hRv).symm
  have h2:=hv v hg (.held z);rw [hat,hy] at h2;obtain rfl:e0.val=v:=by cases h2;rfl
  rw [hg];simpa using hrun
end Go.Proofs.YthokjbikomjhgaaGreatDoor.Ar
namespace Go.Proofs.YthokjbikomjhgaaGreatDoor.Ch
open Go.RowKit Go.Proofs.YthokjbikomjhgaaGreatDoor.Ar Go.Proofs.YthokjbikomjhgaaGreatDoor.Mx Go.Proofs.YthokjbikomjhgaaGreatDoor.Vw
set_option linter.unusedVariables false
set_option linter.unusedSimpArgs false
def atU (w:Int):Int:=w % 18446744073709551616 / 2
theorem Kq:∀ (m:Nat) (l:List Int),l.Nodup→(∀ x∈l,0≤x∧x<m)→l.length≤m
 | 0,l,_,h=>by
  cases l with
  | nil=>simp
  | cons x r=>have:=h x A0b;omega
 | m+1,l,hn,h=>by
  have h1:=Kq m (l.erase (m:Int)) (hn.erase _) (fun x hx=>by
   rw [hn.mem_erase_iff] at hx
   have:=h x hx.2
   have:=hx.1
   omega)
  rw [List.length_erase] at h1
  split at h1 <;> omega
structure Told (len n:Nat) (acc:List Int):Prop where
 nd:acc.Nodup
 at_:∀ x∈acc,Z8 len n x=true
theorem Told.nil (len n:Nat):Told len n []:=⟨List.nodup_nil,by simp⟩
theorem Told.le {len n:Nat} {acc:List Int} (h:Told len n acc):acc.length≤len :=
 Kq len acc h.nd (fun x hx=>by have:=qea (h.at_ x hx);omega)
theorem Told.add {len n:Nat} {acc:List Int} (h:Told len n acc) {a:Int} (h1:Z8 len n a=true) (h2:a∉acc):Told len n (acc++[a]) :=
 ⟨by rw [List.nodup_append];exact ⟨h.nd,by simp,fun x hx y hy=>by simp at hy;subst hy;rintro rfl;exact h2 hx⟩,fun x hx=>by
  rcases List.mem_append.1 hx with h3 | h3
  ·exact h.at_ x h3
  ·simp at h3;subst h3;exact h1⟩
end Go.Proofs.YthokjbikomjhgaaGreatDoor.Ch
namespace Go.Proofs.YthokjbikomjhgaaGreatDoor.Ch
open Go.RowKit Go.Proofs.YthokjbikomjhgaaGreatDoor.Ar Go.Proofs.YthokjbikomjhgaaGreatDoor.Mx Go.Proofs.YthokjbikomjhgaaGreatDoor.Vw
set_option linter.unusedVariables false
set_option linter.unusedSimpArgs false
theorem Xw (a:Int) (w:World):Calls Tryz.prog 154 #[.int .i64 a] w fun e w'=>e = .returned (.int .i64 (atU a))∧w=w' :=
 (Word.Xw a w).mono (by rintro e w' ⟨rfl,rfl⟩;exact ⟨rfl,rfl⟩)
def sliceLen:Value→Nat
 | .slice _ n _=>n
 | _=>0
end Go.Proofs.YthokjbikomjhgaaGreatDoor.Ch
namespace Go.Proofs.YthokjbikomjhgaaGreatDoor.Ch
open Go.RowKit Go.Proofs.YthokjbikomjhgaaGreatDoor.Ar Go.Proofs.YthokjbikomjhgaaGreatDoor.Mx Go.Proofs.YthokjbikomjhgaaGreatDoor.Vw
set_option linter.unusedVariables false
set_option linter.unusedSimpArgs false
def fN (x:Int):List Value:=[.int .i64 x]
theorem q10:Lays fN 1:=⟨fun _=>rfl,fun x u hu=>by simp [fN] at hu;subst hu;rfl,by decide⟩
theorem intN:(Tryz.prog.info? 3).map (fun i=>(i.zero,i.size,i.bytes))=some (some (.int .i64 0),1,8):=by kernel_rfl
end Go.Proofs.YthokjbikomjhgaaGreatDoor.Ch
namespace Go.Proofs.YthokjbikomjhgaaGreatDoor.Ch
open Go.RowKit Go.Proofs.YthokjbikomjhgaaGreatDoor.Ar Go.Proofs.YthokjbikomjhgaaGreatDoor.Mx Go.Proofs.YthokjbikomjhgaaGreatDoor.Vw
set_option linter.unusedVariables false
set_option linter.unusedSimpArgs false
def itV (x:It):Value:=.agg #[.int .i64 x.k,.int .i64 x.v,.int .i64 x.d]
def zeroItV:Value:=.agg #[.int .i64 0,.int .i64 0,.int .i64 0]
theorem zeroIt (W:World):(zeroValue 74).run Tryz.prog W = .ok zeroItV W:=by kernel_rfl
def mapG (g:Int→Option It) (k:Int):Option Value:=(g k).map itV
theorem gm_alloc {w:World} {b n:Nat} {g:Int→Option Value} (h:GMap w b n g) (o:Obj):GMap (w.alloc o) b n g:=h.up ((Fr.refl [] w).alloc o)
end Go.Proofs.YthokjbikomjhgaaGreatDoor.Ch
namespace Go.Proofs.YthokjbikomjhgaaGreatDoor.Dr
open Go.RowKit
structure Fr (S:List Nat) (w w':World):Prop where
 os:w'.os=w.os
 tape:w'.tape=w.tape
 output:w'.output=w.output
 size:w.heap.size≤w'.heap.size
 block:∀ k,k<w.heap.size→k∉S→w'.heap[k]? = w.heap[k]?
 drawn:w.drawn≤w'.drawn
theorem Fr.refl (S:List Nat) (w:World):Fr S w w:=⟨rfl,rfl,rfl,Nat.le_refl _,fun _ _ _=>rfl,Nat.le_refl _⟩
theorem Fr.trans {S:List Nat} {a b c:World} (h:Fr S a b) (k:Fr S b c):Fr S a c :=
 ⟨k.os.trans h.os,k.tape.trans h.tape,k.output.trans h.output,qh h.size k.size,fun i hi hn=>(k.block i (qj hi h.size) hn).trans (h.block i hi hn),qh h.drawn k.drawn⟩
theorem Fr.alloc {S:List Nat} {a w:World} (h:Fr S a w) (o:Obj):Fr S a (w.alloc o) :=
 h.trans ⟨rfl,rfl,rfl,by simp,fun k hk _=>Below.heap_alloc w o k hk,Nat.le_refl _⟩
theorem Fr.grow {w w':World} (h:Fr [] w w'):∃ q os,w'=Go.Sort.grow (w.drewN q) os:=by
 obtain ⟨heap,tape,drawn,os,output⟩:=w;obtain ⟨heap',tape',drawn',os',output'⟩:=w';obtain ⟨h1,h2,h3,h4,h5,h6⟩:=h;simp only at h1 h2 h3 h4 h5 h6;subst h1;subst h2;subst h3;refine ⟨drawn' - drawn,heap'.extract heap.size heap'.size,?_⟩;unfold Go.Sort.grow World.drewN;simp only [World.mk.injEq,and_true,true_and];refine ⟨?_,by omega⟩;apply Array.ext';apply List.ext_getElem?;intro i;rw [Array.toList_append,Array.toList_extract];by_cases hi:i<heap.size
 ·have:=h5 i hi A0b;rw [List.getElem?_append_left (by simpa using hi)];simpa using this
 ·rw [List.getElem?_append_right (by simpa using hi)];simp only [List.extract_eq_take_drop,Array.length_toList,List.getElem?_take,List.getElem?_drop];split
  ·congr 1;omega
  ·rw [List.getElem?_eq_none];simp;omega
def In (w:World):Type:={ x:World // Fr [] w x }
instance (w:World):Nonempty (In w):=⟨⟨w,Fr.refl _ _⟩⟩
section
variable {P:Program} {ops:Array Oper} {Q:Exit→Act→World→Prop} {md:Region.Mode} {w0:World} {S:List Nat}
end
section
variable {P:Program} {l:List Oper} {Q:Exit→Act→World→Prop} {w0:World} {S:List Nat}
end
end Go.Proofs.YthokjbikomjhgaaGreatDoor.Dr
namespace Go.Proofs.YthokjbikomjhgaaGreatDoor.Mx
open Go.Sort
set_option linter.unusedVariables false
set_option linter.unusedSimpArgs false
def lat1 (k v:Int) (b:Option It) (x:It):Option It:=if x.k=k∧x.v≤v∧b.all (fun y=>decide (y.v≤x.v))=true then some x else b
def latT (l:List It) (k v:Int):Option It:=l.foldl (lat1 k v) none
def key1 (out:List Int) (x:It):List Int:=if out.getLast? = some x.k then out else out++[x.k]
def keysS (s:List It):List Int:=s.foldl key1 []
def keysT (l:List It):List Int:=keysS (Zh l)
theorem keysS_spec:∀ (r:List It) (out:List Int),Srt r→out.Pairwise (· < ·)→(∀ o∈out,∀ x∈r,o≤x.k) →
  (r.foldl key1 out).Pairwise (· < ·)∧∀ k,k∈r.foldl key1 out↔k∈out∨∃ x∈r,x.k=k
 | [],out,_,h,_=>⟨h,fun k=>by simp⟩
 | x :: r,out,hs,h,hb=>by
  have hxr:=(Vn.1 hs).1;rw [List.foldl_cons]
  have hout:(key1 out x).Pairwise (· < ·)∧(∀ k,k∈key1 out x↔k∈out∨k=x.k):=by
   unfold key1;split
   ·rename_i he;refine ⟨h,fun k=>⟨Or.inl,fun hk=>hk.elim id fun e=>e ▸ List.mem_of_getLast? he⟩⟩
   ·rename_i he;refine ⟨?_,fun k=>by simp⟩;rw [List.pairwise_append];refine ⟨h,by simp,fun a ha b hb'=>?_⟩;simp at hb';subst hb';have hle:=hb a ha x A0b;rcases Int.lt_or_eq_of_le hle with h1 | h1
    ·exact h1
    ·exfalso;apply he;subst h1;obtain ⟨A,B,rfl⟩:=List.append_of_mem ha;cases hB:B.getLast? with
     | none=>rw [List.getLast?_eq_none_iff] at hB;subst hB;simp
     | some z =>
      have hz:=List.mem_of_getLast? hB;have h2:=(List.pairwise_append.1 h).2.1;have h3:=(List.pairwise_cons.1 h2).1 z hz;have h4:=hb z (by simp [hz]) x A0b;omega
  obtain ⟨i1,i2⟩:=keysS_spec r (key1 out x) (Vn.1 hs).2 hout.1 (fun o ho y hy=>by
   rcases (hout.2 o).1 ho with ho | rfl
   ·exact hb o ho y (by simp [hy])
   ·have:=hxr y hy;unfold leT at this;omega)
  refine ⟨i1,fun k=>?_⟩;rw [i2,hout.2];simp only [List.mem_cons,exists_eq_or_imp];constructor
  ·rintro ((h | h) | h)
   ·exact .inl h
   ·exact .inr (.inl h.symm)
   ·exact .inr (.inr h)
  ·rintro (h | h | h)
   ·exact .inl (.inl h)
   ·exact .inl (.inr h.symm)
   ·exact .inr h
theorem keysT_rise (l:List It):(keysT l).Pairwise (· < ·):=(keysS_spec _ [] (q5x l) List.Pairwise.nil A0b).1
theorem mem_keysT {l:List It} {k:Int}:k∈keysT l↔∃ x∈l,x.k=k:=by have:=(keysS_spec _ [] (q5x l) List.Pairwise.nil A0b).2 k;simp only [List.not_mem_nil,false_or] at this;unfold keysT keysS;rw [this];exact ⟨fun ⟨x,h,e⟩=>⟨x,Rt.1 h,e⟩,fun ⟨x,h,e⟩=>⟨x,Rt.2 h,e⟩⟩
end Go.Proofs.YthokjbikomjhgaaGreatDoor.Mx
namespace Go.Proofs.YthokjbikomjhgaaGreatDoor.Kp
open Go.RowKit Go.Proofs.YthokjbikomjhgaaGreatDoor.Mx
set_option linter.unusedVariables false
set_option linter.unusedSimpArgs false
def cfZ (x y:Int):Int:=if x<y then -1 else if y<x then 1 else 0
theorem isNaN_any (x:Int) (w:World):Calls Tryz.prog 169 #[.int .i64 x] w fun e w'=>e = .returned (.bool false)∧w'=w:=by go_enter Tryz.func169,Tryz.ntmps169;go_wp2_with fail;go_ret;exact ⟨by simp,rfl⟩
set_option maxHeartbeats 1600000 in
theorem cmp_any (x y:Int) (w:World):Calls Tryz.prog 98 #[.int .i64 x,.int .i64 y] w fun e w'=>e = .returned (.int .i64 (cfZ x y))∧w'=w:=by
 go_enter Tryz.func98,Tryz.ntmps98;unfold cfZ;by_cases h1:x<y
 ·go_wp2_with (go_at_call 169;refine (isNaN_any _ _).mono ?_;rintro e w' ⟨rfl,rfl⟩);go_ret;exact ⟨by simp [h1],rfl⟩
 ·by_cases h2:y<x
  ·exact Pz
  ·exact Pz
end Go.Proofs.YthokjbikomjhgaaGreatDoor.Kp
namespace Go.Proofs.YthokjbikomjhgaaGreatDoor.Kp
open Go.RowKit Go.Proofs.YthokjbikomjhgaaGreatDoor.Mx Go.Proofs.YthokjbikomjhgaaGreatDoor.Dr
set_option linter.unusedVariables false
set_option linter.unusedSimpArgs false
theorem cells3 {w:World} {b:Nat} {T:TypeId} {x0 x1 x2:Value} (h:w.heap[b]? = some (.cells #[x0,x1,x2] T (0,0))):w.cell? ⟨b,0,none⟩=some x0∧w.cell? ⟨b,1,none⟩=some x1∧w.cell? ⟨b,2,none⟩=some x2:=by refine ⟨?_,?_,?_⟩ <;> (unfold World.cell?;simp [h])
end Go.Proofs.YthokjbikomjhgaaGreatDoor.Kp
namespace Go.Proofs.YthokjbikomjhgaaGreatDoor.Kp
open Go.RowKit Go.Shelf Go.Lib Go.Sort Go.Maps Go.Proofs.YthokjbikomjhgaaGreatDoor.Ar Go.Proofs.YthokjbikomjhgaaGreatDoor.Mx
def Feeds {α:Type} (n:Nat) (P:Program) (g:Nat) (lb:Array Value) (enc:α→Value) (S:List α→Prop) (N:Nat) (w:World):Prop :=
 ∀ (l:Nat) (J:List α→World→Prop) (W:World),Below w.heap.size w W→AbidesFrom W.heap.size J→(∀ xs W1,J xs W1→Below w.heap.size w W1) →
  (∀ pre x W1,J pre W1→pre.length<N→YieldAt Fence.wide (n - 1) P l #[enc x] W1 fun e W'=>e = .returned (.bool true)∧J (pre++[x]) W'∧KeepsWalks W1 W') →
  J [] W →
  CallsIn Fence.wide n P g (#[.func (.yield l) #[] #[]]++lb) W fun e W'=>(∃ v,e = .returned v)∧∃ xs,S xs∧J xs W'
theorem cells_new (w:World) (vs:Array Value) (T:TypeId):∀ (j:Nat) (u:Value),vs.toList[j]? = some u→(w.alloc (.cells vs T)).cell? ((⟨w.heap.size,0,none⟩:Addr).add j)=some u:=by intro j u h;rw [addr_add,Nat.zero_add];unfold World.cell?;rw [Go.heap_alloc_new];simpa using h
end Go.Proofs.YthokjbikomjhgaaGreatDoor.Kp
namespace Go.Proofs.YthokjbikomjhgaaGreatDoor.Kp.ApT
open Go.RowKit Go.Shelf Go.Lib Go.Sort Go.Maps Go.Proofs.YthokjbikomjhgaaGreatDoor.Ar Go.Proofs.YthokjbikomjhgaaGreatDoor.Mx Go.Proofs.YthokjbikomjhgaaGreatDoor.Kp
set_option linter.unusedVariables false
set_option linter.unusedSimpArgs false
def enc (x : It) : Value := .agg #[.int .i64 x.k, .int .i64 x.v, .int .i64 x.d]
def assign : Code := Code.region 2 #[{ dst := some 5, op := Op.alloc 74, type := 0, pos := "iter.go:51", after := #[], guard := none }, { dst := none, op := Op.store 74 (Operand.tmp 5) (Operand.tmp 7), type := 0, pos := "iter.go:51", after := #[{ on := 0, ground := Ground.data }, { on := 0, ground := Ground.phase }], guard := none }] false
def body : Code := Code.block 1 (Code.region 3 #[{ dst := some 8, op := Op.load 65 (Operand.tmp 2), type := 65, pos := "iter.go:52", after := #[], guard := none }, { dst := some 9, op := Op.load 74 (Operand.tmp 5), type := 74, pos := "iter.go:52", after := #[], guard := none }, { dst := some 10, op := Op.buildSlice 65 1 #[(0, Operand.tmp 9)], type := 65, pos := "iter.go:52", after := #[{ on := 1, ground := Ground.data }], guard := none }, { dst := some 11, op := Op.call { callee := Callee.builtin Builtin.append, args := #[Operand.tmp 8, Operand.tmp 10], argTypes := #[65, 65] }, type := 65, pos := "iter.go:52", after := #[{ on := 0, ground := Ground.data }, { on := 2, ground := Ground.data }], guard := none }, { dst := none, op := Op.store 65 (Operand.tmp 2) (Operand.tmp 11), type := 0, pos := "iter.go:52", after := #[{ on := 3, ground := Ground.data }, { on := 3, ground := Ground.chain }, { on := 0, ground := Ground.phase }, { on := 1, ground := Ground.phase }, { on := 2, ground := Ground.phase }, { on := 3, ground := Ground.phase }], guard := none }] false)
/-- The loop's record. -/
def rec (fn : FuncId) (sv : Value) (Bs_u D : Nat) (st : LoopState) : Loop :=
  { state := st, pending := none, fn, tmps := #[.slice none 0 0, sv, .pointer (some ⟨Bs_u, 0, none⟩), undef, .slice none 0 0, undef, sv, undef, undef, undef, undef, undef, undef], params := #[7], assign := assign, body := body, defers := D }
/-- Between two rounds: what has come so far lies in a row of the call's own. -/
structure At (w0 : World) (fn : FuncId) (sv : Value) (Bs_u l D : Nat) (ss : List It) (W : World) : Prop where
  box : ∃ v, W.heap[Bs_u]? = some (.cells #[v] 65 (0, 0)) ∧ W.ownsRow w0.heap.size 74 3 v ss.length (ss.flatMap fT)
  lp : W.heap[l]? = some (.loop (rec fn sv Bs_u D .ready))
  df : W.heap[D]? = some (.deferred (some []))
  below : Below w0.heap.size w0 W
theorem At.abides (w0 : World) (fn : FuncId) (sv : Value) (Bs_u l D B : Nat) (hB : w0.heap.size ≤ B) : AbidesFrom B (At w0 fn sv Bs_u l D) := fun s W W' row h hg hrow => by
  have hrow' : ∀ r, row = some r → ∃ o : Obj, W.heap[r]? = some o ∧ o.isWalk = true := fun r e => (hrow r e).2
  obtain ⟨v, hv, hr⟩ := h.box
  exact ⟨⟨v, (grownBy_keeps hg hrow' hv rfl).trans hv, ownsRow_abides_a hr hg hrow'⟩, (grownBy_keeps hg hrow' h.lp rfl).trans h.lp, (grownBy_keeps hg hrow' h.df rfl).trans h.df,
    h.below.grown hg h.below.size (fun k e => qh hB (hrow k e).1)⟩
theorem ne_es {W : World} {base : Nat} {v : Value} {k : Nat} {xs : List Value} {j : Nat} {u : Value} (h : W.ownsRow base 74 3 v k xs) (hj : W.heap[j]? = some (.cells #[u] 65 (0, 0))) : v.ownBlock = none ∨ v.ownBlock ≠ some j :=
  ownsRow_ne_a h hj (fun cur e => absurd (Obj.cells.inj e).2.1 A0c)
theorem ne_lp {W : World} {base : Nat} {v : Value} {k : Nat} {xs : List Value} {j : Nat} {r : Loop} (h : W.ownsRow base 74 3 v k xs) (hj : W.heap[j]? = some (.loop r)) : v.ownBlock = none ∨ v.ownBlock ≠ some j :=
  ownsRow_ne_a h hj (fun cur e => by cases e)
theorem ne_df {W : World} {base : Nat} {v : Value} {k : Nat} {xs : List Value} {j : Nat} {r : Option (List Deferred)} (h : W.ownsRow base 74 3 v k xs) (hj : W.heap[j]? = some (.deferred r)) : v.ownBlock = none ∨ v.ownBlock ≠ some j :=
  ownsRow_ne_a h hj (fun cur e => by cases e)
theorem some_ne {v : Value} {j : Nat} (h : v.ownBlock = none ∨ v.ownBlock ≠ some j) : some j ≠ v.ownBlock := by
  rcases h with e | e
  · rw [e]; simp
  · exact fun e' => e e'.symm
set_option maxRecDepth 100000 in
set_option maxHeartbeats 3200000 in
theorem round (m : Nat) (w0 : World) (fn : FuncId) (sv : Value) (Bs_u l D : Nat) (hBl : Bs_u ≠ l) (hDl : D ≠ l) (hDB : D ≠ Bs_u) (h0B : w0.heap.size ≤ Bs_u) (h0l : w0.heap.size ≤ l) (ss : List It) (x : It) (W : World) (h : At w0 fn sv Bs_u l D ss W) (hlen : ss.length < 1000) :
    YieldAt Fence.wide m Tryz.prog l #[enc x] W fun e W' => e = .returned (.bool true) ∧ At w0 fn sv Bs_u l D (ss ++ [x]) W' ∧ KeepsWalks W W' := by
  obtain ⟨i0, hi, hz0, hz1, hz2⟩ := info_parts itI;refine ⟨fn, #[.slice none 0 0, sv, .pointer (some ⟨Bs_u, 0, none⟩), undef, .slice none 0 0, undef, sv, enc x, undef, undef, undef, undef, undef], assign, body, by simpa [rec] using run_yield (P := Tryz.prog) (args := #[enc x]) h.lp rfl, roundIn_of_wpIn trivial ?_⟩;obtain ⟨W1, hW1⟩ : ∃ W1, W.alloc (.cells #[.int .i64 x.k, .int .i64 x.v, .int .i64 x.d] 74) = W1 := ⟨_, rfl⟩;have h1 : At w0 fn sv Bs_u l D ss W1 := by rw [← hW1]; exact At.abides w0 fn sv Bs_u l D w0.heap.size (Nat.le_refl _) ss W _ none h (World.grownBy_alloc W _ none) (fun r e => by cases e)
  have hk1 : KeepsWalks W W1 := by rw [← hW1]; exact KeepsWalks.alloc _ _
  have hc1 : W1.heap[W.heap.size]? = some (.cells #[.int .i64 x.k, .int .i64 x.v, .int .i64 x.d] 74 (0, 0)) := by rw [← hW1]; exact Go.heap_alloc_new _ _
  obtain ⟨v, hv, hrow⟩ := h1.box;have hl : l < W1.heap.size := (Array.getElem?_eq_some_iff.1 h1.lp).1;have hbr := run_beginRound (P := Tryz.prog) h1.lp rfl;obtain ⟨W5, hW2⟩ : ∃ W2, W1.putObj l (.loop { rec fn sv Bs_u D .ready with state := .busy }) = W2 := ⟨_, rfl⟩;rw [hW2] at hbr;have hg2 : W1.grownBy W5 (some l) := by rw [← hW2]; exact grownBy_putObj_a _ _ _
  have hk5 : KeepsWalks W W5 := hk1.trans (by rw [← hW2]; exact KeepsWalks.putObj _ h1.lp rfl);have hv5 : W5.heap[Bs_u]? = some (.cells #[v] 65 (0, 0)) := by rw [← hW2]; exact (World.putObj_heap_other hBl).trans hv
  have hK5 : W5.heap[D]? = some (.deferred (some [])) := by rw [← hW2]; exact (World.putObj_heap_other hDl).trans h1.df
  have hL5 : W5.heap[l]? = some (.loop { rec fn sv Bs_u D .ready with state := .busy }) := by rw [← hW2]; exact World.putObj_heap_same hl
  have hrow5 := hrow.kept hg2 (ne_lp hrow h1.lp);have hb5 : Below w0.heap.size w0 W5 := h1.below.grown hg2 h1.below.size (fun k e => by cases e; exact h0l)
  have hc5 : W5.heap[W.heap.size]? = some (.cells #[.int .i64 x.k, .int .i64 x.v, .int .i64 x.d] 74 (0, 0)) := by rw [← hW2]; exact (World.putObj_heap_other (fun e => by rw [e, h1.lp] at hc1; cases hc1)).trans hc1
  obtain ⟨c50, c51, c52⟩ := cells3 hc5;clear hW2;obtain ⟨hc2, hf2⟩ := cell_of_box_a hv5;have hBlt : Bs_u < W5.heap.size := (Array.getElem?_eq_some_iff.1 hv5).1;have hl5 : l < W5.heap.size := (Array.getElem?_eq_some_iff.1 hL5).1;have hDlt : D < W5.heap.size := (Array.getElem?_eq_some_iff.1 hK5).1;unfold assign enc;gi_wp2_with gi_round_op_a;unfold body
  gi_wp2_with (first
    | (gi_at_builtin; refine wpListIn_append_own _ rfl _ _ 65 rfl w0.heap.size 74 i0 _ 3 24 Tryz.underlying65 hi hz0 hz1 hz2 rfl A0c _ _ _ rfl (hrow5.alloc _) ⟨W5.heap.size, 0, none⟩ 1 1 [.int .i64 x.k, .int .i64 x.v, .int .i64 x.d] rfl rfl (cells_new _ _ _) (by simp [Value.oneCell']) (by unfold maxLen; omega) A0a (by have := hb5.size; simp; omega) ?_; intro v' w3 hown' hg3 hnil3
       have hv3 : w3.heap[Bs_u]? = some (.cells #[v] 65 (0, 0)) := (hg3.block Bs_u A0m (some_ne (ne_es hrow5 hv5))).trans ((Below.heap_alloc _ _ Bs_u hBlt).trans hv5)
       obtain ⟨hc3, hf3⟩ := cell_of_box_a hv3
       obtain ⟨g', cap', cur', rfl, hbase', hgb', hr1, hr2, hr3, hr4⟩ : ∃ g' cap' cur', v' = .slice (some ⟨g', 0, none⟩) (ss.length + 1) cap' ∧ w0.heap.size ≤ g' ∧ w3.heap[g']? = some (.cells cur' 74 (0, 0)) ∧ ss.length + 1 ≤ cap' ∧ cap' ≤ maxLen ∧ cur'.size = cap' * 3 ∧ cur'.toList.take ((ss.length + 1) * 3) = ss.flatMap fT ++ [.int .i64 x.k, .int .i64 x.v, .int .i64 x.d] := by
         rcases hown'.2 with ⟨_, h0⟩ | h'
         · exact absurd h0 A0a
         · exact h'
       go_frame)
    | gi_round_op_a)
  have hg3' : (W5.alloc (.cells #[.int .i64 x.k, .int .i64 x.v, .int .i64 x.d] 74)).grownBy w3 v.ownBlock := hg3;have hL3 : w3.heap[l]? = some (.loop { rec fn sv Bs_u D .ready with state := .busy }) := (hg3'.block l A0m (some_ne (ne_lp hrow5 hL5))).trans ((Below.heap_alloc _ _ l hl5).trans hL5);have hK3 : w3.heap[D]? = some (.deferred (some [])) := (hg3'.block D A0m (some_ne (ne_df hrow5 hK5))).trans ((Below.heap_alloc _ _ D hDlt).trans hK5);obtain ⟨w4, hw4⟩ : ∃ w4, w3.setCell ⟨Bs_u, 0, none⟩ (.slice (some ⟨g', 0, none⟩) (ss.length + 1) cap') = w4 := ⟨_, rfl⟩;rw [hw4];have hg4 : w3.grownBy w4 (some Bs_u) := by rw [← hw4]; exact grownBy_setCell0_a _ _ _
  have hv4 : w4.heap[Bs_u]? = some (.cells #[.slice (some ⟨g', 0, none⟩) (ss.length + 1) cap'] 65 (0, 0)) := by rw [← hw4]; exact heap_setCell_box_a _ hv3
  have hL4 : w4.heap[l]? = some (.loop { rec fn sv Bs_u D .ready with state := .busy }) := (hg4.block l (Array.getElem?_eq_some_iff.1 hL3).1 (fun e => hBl (by cases e; rfl))).trans hL3;have hK4 : w4.heap[D]? = some (.deferred (some [])) := (hg4.block D (Array.getElem?_eq_some_iff.1 hK3).1 (fun e => hDB (by cases e; rfl))).trans hK3;have hrow4 := hown'.kept hg4 (ne_es hown' hv3);have hl4 : l < w4.heap.size := (Array.getElem?_eq_some_iff.1 hL4).1;have hb3 : Below w0.heap.size w0 w3 := (hb5.alloc hb5.size _).grown hg3' (by have := hb5.size; simp; omega) (fun k e => (hrow5.lt k e).1);have hb4 : Below w0.heap.size w0 w4 := hb3.grown hg4 hb3.size (fun k e => by cases e; exact h0B);have hk4 : KeepsWalks W w4 := ((hk5.trans (KeepsWalks.alloc _ _)).trans (KeepsWalks.of_grownBy hg3' (ownsRow_not_walk_a (hrow5.alloc _)))).trans (by rw [← hw4]; exact KeepsWalks.setCell _ _ _);clear hw4;have hrow6 := hrow4.kept (grownBy_putObj_a w4 l (.loop { { rec fn sv Bs_u D .ready with state := .busy } with state := .ready, pending := none })) (ne_lp hrow4 hL4);refine ⟨_, _, run_endRound none hL4, rfl, ⟨⟨_, (World.putObj_heap_other hBl).trans hv4, ?_⟩, World.putObj_heap_same hl4, (World.putObj_heap_other hDl).trans hK4, hb4.grown (grownBy_putObj_a _ _ _) hb4.size (fun k e => by cases e; exact h0l)⟩, hk4.trans (KeepsWalks.putObj _ hL4 rfl)⟩;rw [List.length_append, List.flatMap_append];simpa [fT] using hrow6
set_option maxRecDepth 100000 in
set_option maxHeartbeats 2000000 in
/-- slices.AppendSeq(nil, seq): a row of the call's own that holds what has come, in that order. -/
theorem appendSeq (n : Nat) (hn : 2 ≤ n) (g : Nat) (lb : Array Value) (eg : ∀ args w, (callFunc g args).run Tryz.prog w = .ok (.enter g args) w) (S : List It → Prop) (N : Nat) (hN : N ≤ 1000) (w : World) (hseq : Feeds (n - 1) Tryz.prog g lb enc S N w) :
    CallsIn Fence.wide n Tryz.prog 201 #[.slice none 0 0, .func (.func g) #[] lb] w fun e w' => ∃ (v : Value) (ss : List It), e = .returned v ∧ S ss ∧ w'.ownsRow w.heap.size 74 3 v ss.length (ss.flatMap fT) ∧ Below w.heap.size w w' := by
  have h1 : 1 ≤ n := by omega
  have hro : Fence.wide.round = none := rfl;refine callsIn_of_wp_marks Tryz.func201 rfl trivial ?_ hro;simp only [Tryz.ntmps201, List.size_toArray, List.length_cons, List.length_nil, Nat.reduceAdd, Nat.reduceSub, Array.replicate_succ, Array.replicate_zero, List.push_toArray, List.append_toArray, List.nil_append, List.cons_append];gi_wp2;refine wpIn_rangeFunc ?_;intro fn hfn;rw [hro];obtain ⟨W0, hW0⟩ : ∃ W0, w.alloc (.cells #[.slice none 0 0] 65) = W0 := ⟨_, rfl⟩;have hs0 : W0.heap.size = w.heap.size + 1 := by rw [← hW0]; simp
  have hv0 : W0.heap[w.heap.size]? = some (.cells #[.slice none 0 0] 65 (0, 0)) := by rw [← hW0]; exact World.alloc_heap_new w _
  have hb0 : Below w.heap.size w W0 := by rw [← hW0]; exact (Below.refl _ w).alloc (Nat.le_refl _) _
  rw [hW0];obtain ⟨W1, hW1⟩ : ∃ W1, (W0.alloc (.deferred (some []))).alloc (.loop (rec fn (.func (.func g) #[] lb) w.heap.size W0.heap.size .ready)) = W1 := ⟨_, rfl⟩
  have hold : ∀ k, k < W0.heap.size → W1.heap[k]? = W0.heap[k]? := fun k hk => by rw [← hW1]; exact (Below.heap_alloc _ _ k A0m).trans (Below.heap_alloc _ _ k hk)
  have hb1 : Below w.heap.size w W1 := by rw [← hW1]; exact (hb0.alloc hb0.size _).alloc (by have := hb0.size; simp; omega) _
  have hs1 : W1.heap.size = W0.heap.size + 2 := by rw [← hW1]; simp
  have hM : At w fn (.func (.func g) #[] lb) w.heap.size (W0.heap.size + 1) W0.heap.size [] W1 :=
    ⟨⟨_, (hold w.heap.size A0a).trans hv0, ⟨rfl, .inl ⟨rfl, rfl⟩⟩⟩,
     by rw [← hW1]; have := World.alloc_heap_new (W0.alloc (.deferred (some []))) (.loop (rec fn (.func (.func g) #[] lb) w.heap.size W0.heap.size .ready)); rwa [World.size_alloc] at this,
     by rw [← hW1]; exact (Below.heap_alloc _ _ _ A0b).trans (World.alloc_heap_new W0 _), hb1⟩
  refine ⟨W0.heap.size + 1, [{ target := .collected W0.heap.size, args := #[] }], W1, { target := .fn (.func g) lb, args := #[.func (.yield (W0.heap.size + 1)) #[] #[]] }, W1, g,
    #[.func (.yield (W0.heap.size + 1)) #[] #[]] ++ lb, W1, ?_, ?_, ?_, ?_, fun _ => h1, ?_⟩
  · rw [← hW1]; exact run_enterLoop_outer _ _ _ _ _
  · simp [resolve, go_sem]
  · intro f' hf'; trivial
  · simp [invoke, go_sem, eg]
  · refine (hseq (W0.heap.size + 1) (At w fn (.func (.func g) #[] lb) w.heap.size (W0.heap.size + 1) W0.heap.size) W1 hb1 (At.abides _ _ _ _ _ _ _ hb1.size) (fun xs W h => h.below)
      (fun pre x W hJ hl => round (n - 1 - 1) w fn _ w.heap.size (W0.heap.size + 1) W0.heap.size A0a A0a A0a (Nat.le_refl _) A0a pre x W hJ A0a) hM).mono ?_
    rintro e W2 ⟨⟨v0, rfl⟩, ss, hS, h2⟩
    obtain ⟨v, hv, hrow⟩ := h2.box
    have hend := run_endLoop (P := Tryz.prog) h2.lp (by simp [rec])
    obtain ⟨W3, hW3⟩ : ∃ W3, W2.putObj (W0.heap.size + 1) (.loop { rec fn (.func (.func g) #[] lb) w.heap.size W0.heap.size .ready with state := .exhausted }) = W3 := ⟨_, rfl⟩
    rw [hW3] at hend
    have hg3 : W2.grownBy W3 (some (W0.heap.size + 1)) := by rw [← hW3]; exact grownBy_putObj_a _ _ _
    have hv3 : W3.heap[w.heap.size]? = some (.cells #[v] 65 (0, 0)) := by rw [← hW3]; exact (World.putObj_heap_other A0a).trans hv
    have hK3 : W3.heap[W0.heap.size]? = some (.deferred (some [])) := by rw [← hW3]; exact (World.putObj_heap_other A0a).trans h2.df
    have hrow3 := hrow.kept hg3 (ne_lp hrow h2.lp)
    have hb3 : Below w.heap.size w W3 := h2.below.grown hg3 h2.below.size (fun k e => by cases e; omega)
    obtain ⟨hc3, hf3⟩ := cell_of_box_a hv3
    clear hW3
    refine ⟨none, W3, hend, ?_⟩
    gi_wp2
    rw [← hs0]
    refine ⟨by simp, .inl ⟨_, _, rfl, run_takeDeferred hK3, ?_⟩⟩
    exact ⟨_, results_tmp rfl _ _ _, v, ss, rfl, hS, hrow3.kept (grownBy_putObj_a _ _ _) (ne_df hrow3 hK3), hb3.grown (grownBy_putObj_a _ _ _) hb3.size (fun k e => by cases e; omega)⟩
set_option maxHeartbeats 1000000 in
/-- slices.Collect(seq). -/
theorem collect (n : Nat) (hn : 3 ≤ n) (g : Nat) (lb : Array Value) (eg : ∀ args w, (callFunc g args).run Tryz.prog w = .ok (.enter g args) w) (S : List It → Prop) (N : Nat) (hN : N ≤ 1000) (w : World) (hseq : Feeds (n - 1 - 1) Tryz.prog g lb enc S N w) :
    CallsIn Fence.wide n Tryz.prog 166 #[.func (.func g) #[] lb] w fun e w' => ∃ (v : Value) (ss : List It), e = .returned v ∧ S ss ∧ w'.ownsRow w.heap.size 74 3 v ss.length (ss.flatMap fT) ∧ Below w.heap.size w w' := by
  have h1 : 1 ≤ n := by omega
  have eA : ∀ args w, (callFunc 201 args).run Tryz.prog w = .ok (.enter 201 args) w := enters_of Tryz.func201 A09 rfl;have hF : Fence.wide.fn 201 := trivial;refine callsIn_of_wp Tryz.func166 rfl trivial ?_ rfl;simp only [Tryz.ntmps166, List.size_toArray, List.length_cons, List.length_nil, Nat.reduceAdd, Nat.reduceSub, Array.replicate_succ, Array.replicate_zero, List.push_toArray, List.append_toArray, List.nil_append, List.cons_append];gi_wp2_with (gi_at_fn 201; refine (appendSeq (n - 1) A0a g lb eg S N hN _ hseq).mono ?_; rintro e w' ⟨v, ss, rfl, hS, hrow, hb⟩);go_ret;exact ⟨v, ss, rfl, hS, hrow, hb⟩
end Go.Proofs.YthokjbikomjhgaaGreatDoor.Kp.ApT
namespace Go.Proofs.YthokjbikomjhgaaGreatDoor.Kp.ApT
open Go.RowKit Go.Shelf Go.Lib Go.Sort Go.Maps Go.Proofs.YthokjbikomjhgaaGreatDoor.Ar Go.Proofs.YthokjbikomjhgaaGreatDoor.Mx Go.Proofs.YthokjbikomjhgaaGreatDoor.Kp
set_option linter.unusedVariables false
set_option linter.unusedSimpArgs false
theorem fr_of {w w':World} (h:Below w.heap.size w w'):Fr [] w w':=⟨h.os,h.tape,h.output,h.size,fun k hk _=>h.block k hk⟩
end Go.Proofs.YthokjbikomjhgaaGreatDoor.Kp.ApT
namespace Go.Proofs.YthokjbikomjhgaaGreatDoor.Kp
open Go.RowKit Go.Shelf Go.Lib Go.Sort Go.Maps Go.Proofs.YthokjbikomjhgaaGreatDoor.Ar Go.Proofs.YthokjbikomjhgaaGreatDoor.Mx
set_option linter.unusedVariables false
set_option linter.unusedSimpArgs false
theorem get_flat (xs:List It):∀ (i c:Nat) (x:It),xs[i]? = some x→c<3→(xs.flatMap fT)[i * 3+c]? = (fT x)[c]?:=fun i c x hx hc=>zh.at hx hc
theorem holds_row {w:World} {b:Nat} {cur:Array Value} {T:TypeId} {xs:List It} (hb:w.heap[b]? = some (.cells cur T (0,0))) (ht:cur.toList.take (xs.length * 3)=xs.flatMap fT):HoldsK fT 3 w b 0 xs.toArray:=by
 intro t ht2;simp only [size_flatK,List.size_toArray] at ht2;have hlen:=zh.flat xs;obtain ⟨x,hx⟩:∃ x,xs[t / 3]? = some x:=⟨xs[t / 3]'(by omega),List.getElem?_eq_getElem _⟩;have h1:=get_flat xs (t / 3) (t % 3) x hx (Nat.mod_lt _ A0a);rw [show t / 3 * 3+t % 3=t by omega] at h1
 have h2:cur.toList[t]? = (fT x)[t % 3]?:=by rw [← h1,← ht,List.getElem?_take,qf ht2]
 have h3:(flatK fT 3 xs.toArray)[t]! = (fT x)[t % 3]!:=by rw [get_flatK _ _ _ _ (by simpa using ht2)];congr 1;simp [hx]
 have h4:(fT x)[t % 3]? = some ((fT x)[t % 3]!):=A07
 rw [h3];simp only [Nat.zero_add,id];constructor
 ·unfold World.cell?;rw [hb];have:=h2.trans h4;simp at this ⊢;exact this
 ·unfold World.frozen?;rw [hb];simp
theorem flat_flatK (d:Array It):(flatK fT 3 d).toList=d.toList.flatMap fT:=by
 have hlen:=zh.flat d.toList;apply List.ext_getElem?;intro t;by_cases ht:t<d.size * 3
 ·obtain ⟨x,hx⟩:∃ x,d.toList[t / 3]? = some x:=⟨d.toList[t / 3]'(by simp;omega),List.getElem?_eq_getElem _⟩;have h1:=get_flat d.toList (t / 3) (t % 3) x hx (Nat.mod_lt _ A0a);rw [show t / 3 * 3+t % 3=t by omega] at h1;rw [h1,Array.getElem?_toList]
  have h3:(flatK fT 3 d)[t]! = (fT x)[t % 3]!:=by
   rw [get_flatK _ _ _ _ ht];rw [Array.getElem?_toList] at hx;have hx2:d[t / 3]! = x:=by rw [getElem!_def,hx]
   rw [hx2]
  have h4:(fT x)[t % 3]? = some ((fT x)[t % 3]!):=A07
  rw [h4,← h3];have hz:t<(flatK fT 3 d).size:=by simpa using ht
  rw [getElem!_pos _ t hz];exact Array.getElem?_eq_getElem hz
 ·rw [List.getElem?_eq_none A0l,List.getElem?_eq_none (by rw [hlen];simp;omega)]
theorem own_swk {w0 w':World} {base b cap:Nat} {cur:Array Value} {E:TypeId} {n:Nat} {d':Array It} (hbase:base≤b) (hb:w0.heap[b]? = some (.cells cur E (0,0))) (h1:n≤cap) (h2:cap≤maxLen) (h3:cur.size=cap * 3) (S:SWK fT 3 w0 b 0 d' w') (hs:d'.size=n) :
  w'.ownsRow base E 3 (.slice (some ⟨b,0,none⟩) n cap) n (d'.toList.flatMap fT)∧Fr [b] w0 w':=by
 obtain ⟨m,os,rfl⟩:=S;have hg:b<w0.heap.size:=(Array.getElem?_eq_some_iff.1 hb).1;refine ⟨⟨by rw [zh.flat];simp [hs],.inr ⟨b,cap,putCells id 0 (flatK fT 3 d') cur,rfl,hbase,?_,h1,h2,by simp [putCells,h3],?_⟩⟩,?_⟩
 ·unfold sortWorldK putRowK;rw [heap_grow_old _ _ (by simpa using hg)];simp [putRow,mapBlock,Sort.ahead,Array.getElem?_modify,hb,onCells]
 ·rw [← flat_flatK];have hz:(flatK fT 3 d').size=n * 3:=by simp [hs]
  generalize flatK fT 3 d'=F at *;have hcap:n * 3≤cur.size:=by omega
  apply List.ext_getElem?;intro j;by_cases hj:j<n * 3
  ·rw [List.getElem?_take_of_lt hj,Array.getElem?_toList,Array.getElem?_toList];simp [putCells,hz,hj,show j<cur.size by omega]
  ·rw [List.getElem?_take_eq_none A0a,List.getElem?_eq_none (by simp [hz];omega)]
 ·unfold sortWorldK putRowK;refine ⟨rfl,rfl,rfl,by simp,fun k hk hne=>?_⟩;rw [heap_grow_old _ _ (by simpa using hk)];have:b≠k:=fun e=>hne (by rw [e];simp)
  simp [putRow,mapBlock,Sort.ahead,Array.getElem?_modify,this]
theorem rowK_of {w:World} {b:Nat} {cur:Array Value} {T:TypeId} {xs:List It} (hb:w.heap[b]? = some (.cells cur T (0,0))) (ht:cur.toList.take (xs.length * 3)=xs.flatMap fT):RowK fT 3 w b 0 xs.toArray :=
 ⟨fun _=>rfl,fun x u hu=>zh.one x u hu,holds_row hb ht,(Array.getElem?_eq_some_iff.1 hb).1⟩
theorem q2m {w:World} {B sz n:Nat} {E:TypeId} {v:Value} {cs:List Value} (h:w.ownsRow B E sz v n cs):∀ i,i∈v.ownBlock.toList→B≤i:=by
 intro i hi;rcases h.2 with ⟨rfl,_⟩ | ⟨g,cap,cur,rfl,hb,_⟩
 ·simp [Value.ownBlock] at hi
 ·simp [Value.ownBlock] at hi;omega
end Go.Proofs.YthokjbikomjhgaaGreatDoor.Kp
namespace Go.Proofs.YthokjbikomjhgaaGreatDoor.Kp
open Go.RowKit Go.Proofs.YthokjbikomjhgaaGreatDoor.Ar Go.Proofs.YthokjbikomjhgaaGreatDoor.Mx
set_option linter.unusedVariables false
set_option linter.unusedSimpArgs false
theorem itGuard:Tryz.prog.eqGuardType Tryz.prog.depth 74=false:=by kernel_rfl
theorem it_eql (k i o k' i' o':Int) (W:World):(binOp .eql 74 (.agg #[.int .i64 k,.int .i64 i,.int .i64 o]) (.agg #[.int .i64 k',.int .i64 i',.int .i64 o'])).run Tryz.prog W = .ok (.bool (k == k' && i == i' && o == o')) W:=Pq
theorem q7m {α:Type} {xs ys:List α} {n:Nat} {x y:α} (h:xs.take n=ys.take n) (hx:xs[n]? = some x) (hy:ys[n]? = some y) (e:x=y):xs.take (n+1)=ys.take (n+1):=by rw [List.take_add_one,List.take_add_one,h,hx,hy,e]
theorem take_less {α:Type} [DecidableEq α] {xs ys:List α} {n:Nat} {x y:α} (hx:xs[n]? = some x) (hy:ys[n]? = some y) (e:x≠y):decide (xs=ys)=false:=by apply decide_eq_false;rintro rfl;rw [hx] at hy;exact e (qi hy)
theorem it_neq (x y:It) (W:World):(binOp .neq 74 (.agg #[.int .i64 x.k,.int .i64 x.v,.int .i64 x.d]) (.agg #[.int .i64 y.k,.int .i64 y.v,.int .i64 y.d])).run Tryz.prog W = .ok (.bool (decide (x≠y))) W:=by
 obtain ⟨k,i,o⟩:=x;obtain ⟨k',i',o'⟩:=y;have u3:=Tryz.underlying3;have a3:(isAgg 3).run Tryz.prog W = .ok false W:=by kernel_rfl
 have hS:Tryz.prog.underlying 74=some (.struct (Tryz.prog.fieldsOf 74)):=by kernel_rfl
 have hp:Tryz.prog.stoodInHeld 74=false:=by kernel_rfl
 rw [run_neq_struct,show (10000:Nat)=9999+1 from rfl,run_equalIn_agg W 9999 74 _ _ hS hp];simp only [Program.fieldsOf,Tryz.underlying74];go_simp;by_cases h1:k=k' <;> by_cases h2:i=i' <;> by_cases h3:o=o' <;> simp [h1,h2,h3]
def EqIAt (w:World) (xs ys:List It) (x:Value) (wr:World):Prop:=∃ n:Nat,n≤xs.length∧x = .int .i64 n∧Fr [] w wr∧xs.take n=ys.take n
set_option maxHeartbeats 3200000 in
theorem sameItems_any (xs ys:List It) (u v:Value) (w:World) (hl:xs.length≤1000000) (hl2:ys.length≤1000000) (hx:Sq fT w u xs) (hy:Sq fT w v ys):Calls Tryz.prog 33 #[u,v] w fun e w'=>e = .returned (.bool (decide (xs=ys)))∧Fr [] w w':=by
 obtain ⟨a,cap,rfl,-,hm,-⟩:=id hx;obtain ⟨a2,cap2,rfl,-,hm2,-⟩:=id hy;have hG:=itGuard;go_enter Tryz.func33,Tryz.ntmps33;by_cases hll:xs.length=ys.length
 ·have hll':(xs.length:Int)=ys.length:=by omega
  have g:((xs.length:Int) != ys.length)=false:=by simp [hll]
  go_wp2_with fail;clear hll';have HL:=q9 hll;clear hll g;go_loopw [5] (EqIAt w xs ys) (fun x _=>xs.length - (intOf x).toNat);case atStart=>exact ⟨0,Nat.zero_le _,rfl,Fr.refl _ _,rfl⟩
  case round =>
   obtain ⟨n,hn,rfl,Fw_u,hi⟩:=hrel;by_cases hlt:n<xs.length
   ·have hlt2:n<ys.length:=by have:=HL.out;omega
    obtain ⟨x,hxn⟩:∃ x,xs[n]? = some x:=⟨xs[n],List.getElem?_eq_getElem hlt⟩;obtain ⟨y,hyn⟩:∃ y,ys[n]? = some y:=⟨ys[n],List.getElem?_eq_getElem hlt2⟩;obtain ⟨b,off,rfl,c0,c1,c2⟩:=xj (hx.up Fw_u) hxn;obtain ⟨b2,off2,rfl,d0,d1,d2⟩:=xj (hy.up Fw_u) hyn;have k0:=qb c0;have k1:=qb c1;have k2:=qb c2;have l0:=qb d0;have l1:=qb d1;have l2:=qb d2;have hne:=it_neq x y;obtain ⟨q,hg⟩:∃ q,decide (x≠y)=q:=⟨_,rfl⟩;rw [hg] at hne;have HG:=q9 hg;have HX:=q9 hxn;have HY:=q9 hyn;have HI:=q9 hi;clear c0 c1 c2 d0 d1 d2 hg hxn hyn hi;go_wp2_with fail;refine R7 A09 A09 ?_;repeat (go_big_quiet_step (fail))
    refine wpQuiet_nil ?_;intro w1 F1;clear k0 k1 k2 l0 l1 l2 hne hG;cases q with
    | true =>
     go_wp2;go_ret;exact ⟨by rw [take_less HX.out HY.out (of_decide_eq_true HG.out)];rfl,Fw_u.trans F1⟩
    | false =>
     go_wp2;go_roundw;case rel=>exact ⟨n+1,by omega,by go_num,Fw_u.trans F1,q7m HI.out HX.out HY.out (by have:=HG.out;simpa using this)⟩
     case measure=>simp [intOf];omega
   ·obtain rfl:n=xs.length:=by omega
    have HI:=q9 hi;clear hi;go_wp2;go_ret
    exact ⟨by
     have:=HI.out
     rw [List.take_length,HL.out,List.take_length] at this
     rw [decide_eq_true this];rfl,Fw_u⟩
 ·have g:((xs.length:Int) != ys.length)=true:=by simp;omega
  go_wp2;go_ret;exact ⟨by rw [decide_eq_false (fun e=>hll (by rw [e]))];rfl,Fr.refl _ _⟩
def EqZAt (w:World) (xs ys:List Int) (x:Value) (wr:World):Prop:=∃ n:Nat,n≤xs.length∧x = .int .i64 n∧Fr [] w wr∧xs.take n=ys.take n
end Go.Proofs.YthokjbikomjhgaaGreatDoor.Kp
namespace Go.Proofs.YthokjbikomjhgaaGreatDoor.Rf
open Go.RowKit Go.Proofs.YthokjbikomjhgaaGreatDoor.Ar Go.Proofs.YthokjbikomjhgaaGreatDoor.Mx Go.Proofs.YthokjbikomjhgaaGreatDoor.Vw Go.Proofs.YthokjbikomjhgaaGreatDoor.Ch Go.Proofs.YthokjbikomjhgaaGreatDoor.Ref
set_option linter.unusedVariables false
set_option linter.unusedSimpArgs false
set_option maxHeartbeats 1600000 in
theorem q6f (t wd v at_:Int) (n p q:Nat) (s:St) (w:World) (h1:1≤n) (h2:n≤16) (hA:Rar w p q s) :
  Calls Tryz.prog 110 #[.agg #[.int .i64 t,.int .i64 n,.int .i64 wd,.int .i64 v],.pointer (some ⟨p,0,none⟩),.int .i64 at_] w fun e w'=>e = .returned (.bool (Z8 s.l.length n at_))∧Fr [] w w':=by
 obtain ⟨cap,hcap,r0,r1,r2,r3,r4,r5,r6,hc⟩:=Ref.Qk hA;have hlo:=hA.lo;have hhi:=hA.hi;have F0:=(Fr.refl [] w).alloc (.cells #[.int .i64 t,.int .i64 n,.int .i64 wd,.int .i64 v] 23);obtain ⟨c0,c1,c2,c3⟩:=Pl.yp (Ob.new w 23 #[.int .i64 t,.int .i64 n,.int .i64 wd,.int .i64 v]);have k0:=qb (F0.cell r0 A0b);have d0:=qb c0;have d1:=qb c1;have d2:=qb c2;have d3:=qb c3;have HZ:=q9 (show ∀ wz,Calls Tryz.prog 173 #[.agg #[.int .i64 t,.int .i64 n,.int .i64 wd,.int .i64 v]] wz fun e w'=>e = .returned (.int .i64 (7+3 * n))∧Fr [] wz w' from fun wz=>Ref.Zx t n wd v A0a A0a wz);clear c0 c1 c2 c3 r0 r1 r2 r3 r4 r5 r6 hc;by_cases e0:0≤at_
 ·have q0:decide (at_≥0)=true:=decide_eq_true e0;have e:Z8 s.l.length n at_=decide (at_≤(s.l.length:Int) - (7+3 * (n:Int))):=by unfold Z8;rw [decide_eq_true e0];simp
  rw [e];clear e;go_enter Tryz.func110,Tryz.ntmps110;go_wp2_with fail;generalize World.alloc w _=w1 at *;refine R7 A09 A09 ?_;repeat (go_big_quiet_step ((go_at_call 173;exact Calls.in_ (HZ.out _))))
  exact A01
 ·have q0:decide (at_≥0)=false:=decide_eq_false e0;have e:Z8 s.l.length n at_=false:=by unfold Z8;rw [decide_eq_false e0];rfl
  rw [e];clear e;go_enter Tryz.func110,Tryz.ntmps110;go_wp2_with fail;generalize World.alloc w _=w1 at *;refine R7 A09 A09 ?_;repeat (go_big_quiet_step (fail))
  exact A01
def HasAt (w:World) (xs:List Int) (n:Int) (x:Value) (wr:World):Prop:=∃ i:Nat,i≤xs.length∧x = .int .i64 (i:Nat)∧(∀ j y,j<i→xs[j]? = some y→y≠n)∧Fr [] w wr
set_option maxHeartbeats 1600000 in
theorem q97 (xs:List Int) (u:Value) (n:Int) (w:World) (hl:xs.length≤100000) (hu:Sq fN w u xs) :
  Calls Tryz.prog 111 #[u,.int .i64 n] w fun e w'=>e = .returned (.bool (decide (n∈xs)))∧Fr [] w w':=by
 obtain ⟨a,cap,rfl,hcap,hm,-⟩:=id hu;have HU:=q9 hu;clear hu;go_enter Tryz.func111,Tryz.ntmps111;go_wp2_with fail;go_loopw [5] (HasAt w xs n) (fun x _=>xs.length - (RowKit.intOf x).toNat);case atStart=>exact ⟨0,by omega,rfl,fun j y hj=>absurd hj (Nat.not_lt_zero _),Fr.refl _ _⟩
 case round =>
  obtain ⟨i,hi,rfl,hno,F⟩:=hrel;by_cases hlt:i<xs.length
  ·have q1:decide ((i:Int)<(xs.length:Int))=true:=by simp;omega
   have q2:decide (i<xs.length)=true:=decide_eq_true hlt;obtain ⟨x,hx⟩:∃ x,xs[i]? = some x:=⟨xs[i],List.getElem?_eq_getElem hlt⟩;obtain ⟨-,g,off,e,hc⟩:=Sq.cell q10 (HU.out.up F) hx;have hc0:wr.cell? ⟨g,off+i,none⟩=some (.int .i64 x):=by simpa using hc 0 _ rfl
   subst e;have HI:=q9 (qc hno (qc hlt hx));have HF:=q9 F;clear hno hx F hi hc;by_cases hxn:x=n
   ·have q3:(x == n)=true:=by simp [hxn]
    have HX:=q9 hxn;clear hxn;go_wp2_with fail;go_ret;have hnm:n∈xs:=HX.out ▸ List.mem_of_getElem? HI.out.2.2;exact ⟨by rw [decide_eq_true hnm];rfl,HF.out⟩
   ·have q3:(x == n)=false:=by simpa using hxn
    have HX:=q9 hxn;clear hxn;go_wp2_with fail;go_roundw
    case rel =>
     refine ⟨i+1,by omega,by go_num,fun j y hj hy=>?_,HF.out⟩;rcases Nat.lt_or_ge j i with h' | h'
     ·exact HI.out.1 j y h' hy
     ·obtain rfl:j=i:=by omega
      rw [HI.out.2.2] at hy;cases hy;exact HX.out
    case measure=>simp [RowKit.intOf];omega
    all_goals (exfalso;omega)
  ·have q1:decide ((i:Int)<(xs.length:Int))=false:=by simp;omega
   have q2:decide (i<xs.length)=false:=decide_eq_false hlt;have HI:=q9 (qc hno hlt);have HF:=q9 F;clear hno hlt F;go_wp2_with fail;go_ret
   have hnm:¬ n∈xs:=fun hm=>by obtain ⟨j,hj⟩:=List.mem_iff_getElem?.1 hm;have:=(List.getElem?_eq_some_iff.1 hj).1;exact HI.out.1 j n (by have:=HI.out.2;omega) hj rfl
   exact ⟨by rw [decide_eq_false hnm];rfl,HF.out⟩
def Kk (f:Int→Int) (len n:Nat):Nat→Int→List Int→List Int
 | 0,_,acc=>acc
 | k+1,a,acc=>if a=0∨Z8 len n a=false∨a∈acc then acc else Kk f len n k (atW (f (a+2))) (acc++[a])
def q7p (f:Int→Int) (len n:Nat) (t:Int):List Int:=Kk f len n (len+1) (atW (f (9+t))) []
theorem Wt {f:Int→Int} {len n:Nat}:∀ (k:Nat) (a:Int) (acc:List Int),Ch.Told len n acc→Ch.Told len n (Kk f len n k a acc)
 | 0,_,_,h=>h
 | k+1,a,acc,h=>by
  unfold Kk;split
  ·exact h
  ·rename_i hn;simp only [not_or,Bool.not_eq_false] at hn;exact Wt k _ _ (h.add hn.2.1 hn.2.2)
theorem q6r (f:Int→Int) (len n:Nat) (t:Int):Ch.Told len n (q7p f len n t):=Wt _ _ _ (Ch.Told.nil _ _)
def qd4 (s:St) (n:Nat) (t:Int) (B:Nat) (b:Nat) (cs:Array Value) (W:World) (u x:Value) (wr:World):Prop:=∃ (k:Nat) (a:Int) (acc:List Int),x = .int .i64 a∧wr.ownsRow B 3 1 u acc.length (acc.flatMap fN)∧Ch.Told s.l.length n acc∧k+acc.length=s.l.length+1∧Kk (qw s.l) s.l.length n k a acc=q7p (qw s.l) s.l.length n t∧Ob wr b 23 cs∧Fr [] W wr
set_option maxRecDepth 100000 in
set_option maxHeartbeats 3200000 in
theorem q9x (t wd v:Int) (n p q:Nat) (s:St) (w:World) (ht:1≤t) (ht2:t≤8) (h1:1≤n) (h2:n≤16) (hA:Rar w p q s) :
  Calls Tryz.prog 52 #[.agg #[.int .i64 t,.int .i64 n,.int .i64 wd,.int .i64 v],.pointer (some ⟨p,0,none⟩)] w fun e w'=>(∃ u,e = .returned u∧w'.ownsRow w.heap.size 3 1 u (q7p (qw s.l) s.l.length n t).length ((q7p (qw s.l) s.l.length n t).flatMap fN))∧Fr [] w w':=by
 have hlo:=hA.lo;have hhi:=hA.hi;have F0:=(Fr.refl [] w).alloc (.cells #[.int .i64 t,.int .i64 n,.int .i64 wd,.int .i64 v] 23);have o1:=Ob.new w 23 #[.int .i64 t,.int .i64 n,.int .i64 wd,.int .i64 v];have HR:=q9 (fun (wz:World) (Fz:Fr [] w wz)=>hA.kept Fz A0b A0b);have HT:=q9 (qc (qc ht ht2) (qc h1 h2));obtain ⟨c0,c1,c2,c3⟩:=Pl.yp o1;clear hA ht ht2 h1 h2;go_enter Tryz.func52,Tryz.ntmps52;go_wp2_with fail;generalize World.alloc w _=w1 at *;have hsz:=F0.size;generalize hb:w.heap.size=b at *;refine (Ref.Qo t n wd v HT.out.1.1 HT.out.1.2 _).mono ?_;rintro e w2 ⟨rfl,F2⟩;have G:=F0.trans F2;replace o1:=o1.up F2;have e9:wrap64 (3+t+4+2)=9+t:=by rw [w64 (by have:=HT.out.1;omega) (by have:=HT.out.1;omega)];omega
 clear F0 F2 c0 c1 c2 c3;go_wp2_with fail;refine (Ref.vk _ p q s _ (HR.out _ G)).mono ?_;rintro e _ ⟨rfl,rfl⟩;go_wp2_with fail;refine (Mx.Xw _ _).mono ?_;rintro e _ ⟨rfl,rfl⟩;have HG:=q9 G;have HO:=q9 o1;have HB:=q9 (qc hb (qc hsz (qc hlo hhi)));have hst:Kk (qw s.l) s.l.length n (s.l.length+1) (atW (qw s.l (9+t))) []=q7p (qw s.l) s.l.length n t:=rfl;generalize atW (qw s.l (9+t))=a0 at *;have HS:=q9 hst;clear G o1 hb hsz e9 hst;go_wp2_with fail;go_loopw [5,6] (fun u x wr=>qd4 s n t w2.heap.size b #[.int .i64 t,.int .i64 n,.int .i64 wd,.int .i64 v] w2 u x wr) (fun u _ _=>s.l.length+1 - sliceLen u);case atStart=>exact ⟨_,a0,[],rfl,⟨rfl,.inl ⟨rfl,rfl⟩⟩,Ch.Told.nil _ _,by simp,HS.out,HO.out,Fr.refl _ _⟩
 case round =>
  obtain ⟨k,a,acc,rfl,hr,hT,hk,he,o2,F⟩:=hrel;have hacc:=hT.le;have HU:=q9 (show sliceLen u5=acc.length by obtain ⟨a',c',e,-⟩:=Qc hr;rw [e];rfl);obtain ⟨k,rfl⟩:∃ j,k=j+1:=⟨k - 1,by omega⟩;have HK:=q9 (qc hk hacc);have HR2:=q9 hr;have HO2:=q9 o2;have HF:=q9 F;clear hk hacc hr F;by_cases ea:a=0
  ·have hE:=q9 (show q7p (qw s.l) s.l.length n t=acc by rw [← he];unfold Kk;rw [qf (.inl ea)]);have g0:(a != 0)=false:=by simp [ea]
   clear ea he hT o2;go_wp2_with fail;go_ret;exact ⟨⟨_,rfl,by rw [hE.out];exact Q3 HR2.out HG.out.size⟩,HG.out.trans HF.out⟩
  ·have g0:(a != 0)=true:=by simpa using ea
   obtain ⟨c0,c1,c2,c3⟩:=Pl.yp o2;have HEA:=q9 (qc ea (qc hT he));clear ea hT he o2;go_wp2_with fail;refine (q6f t wd v a n p q s _ HT.out.2.1 HT.out.2.2 (HR.out _ (HG.out.trans HF.out))).mono ?_;rintro e w5 ⟨rfl,F5⟩;have HF5:=q9 (HF.out.trans F5);have HR5:=q9 (qo HR2.out F5);have HO5:=q9 (HO2.out.up F5);clear F5 c0 c1 c2 c3;cases htb:Z8 s.l.length n a with
   | false =>
    have hE:=q9 (show q7p (qw s.l) s.l.length n t=acc by rw [← HEA.out.2.2];unfold Kk;rw [qf (.inr (.inl htb))]);clear htb;go_wp2_with fail;go_ret;exact ⟨⟨_,rfl,by rw [hE.out];exact Q3 HR5.out HG.out.size⟩,HG.out.trans HF5.out⟩
   | true =>
    have HTB:=q9 htb;clear htb;go_wp2_with fail;refine (q97 acc u5 a _ (by have:=HK.out.2;have:=HB.out.2.2.2;omega) (Sq.own HR5.out)).mono ?_;rintro e w6 ⟨rfl,F6⟩;have HF6:=q9 (HF5.out.trans F6);have HR6:=q9 (qo HR5.out F6);have HO6:=q9 (HO5.out.up F6);clear F6;by_cases hm:a∈acc
    ·have hE:=q9 (show q7p (qw s.l) s.l.length n t=acc by rw [← HEA.out.2.2];unfold Kk;rw [qf (.inr (.inr hm))]);rw [decide_eq_true hm];clear hm;go_wp2_with fail;go_ret;exact ⟨⟨_,rfl,by rw [hE.out];exact Q3 HR6.out HG.out.size⟩,HG.out.trans HF6.out⟩
    ·have HE:=q9 (show Kk (qw s.l) s.l.length n k (atW (qw s.l (a+2))) (acc++[a])=q7p (qw s.l) s.l.length n t by rw [← HEA.out.2.2];conv=>rhs;unfold Kk;rw [qd (by rintro (h | h | h);exact HEA.out.1 h;rw [HTB.out] at h;cases h;exact hm h)]);have HT2:=q9 (HEA.out.2.1.add HTB.out hm);rw [decide_eq_false hm];clear hm;have GA:=(Fr.refl [] w6).alloc (.cells #[.int .i64 a] 3);have X4:=qo HR6.out GA;have X3:=(Sq.block (f:=fN) (xs:=[a]) (c:=1) (Ob.new w6 3 #[.int .i64 a]) rfl rfl (Nat.le_refl _) A0i);have EA:=HF6.out.trans GA;have hsA:=EA.size;have HO7:=q9 (HO6.out.up GA);have hal:acc.length+1≤1000000:=by have:=HK.out.2;have:=HB.out.2.2.2;omega
     have HAL:=q9 hal;clear GA hal;go_wp2_with (at_builtin;refine qq q10 rfl _ _ 25 rfl Tryz.underlying25 intN rfl (B:=w2.heap.size) u5 acc rfl X4 _ [a] rfl X3 HAL.out A0c hsA ?_;intro a9 c9 w9 r9 F9;generalize hTT:acc++[a]=T at r9 ⊢;have E9:=EA.own F9 (z8 X4);have HTT:=q9 hTT;clear hTT X3 X4 hsA EA);have hbd:=qea HTB.out;rw [w64 (a:=a+2) A0a (by have:=HB.out.2.2.2;omega)];have HE9:=q9 E9;have HR9:=q9 r9;clear F9 r9 E9;refine (Ref.vk _ p q s _ (HR.out _ (HG.out.trans HE9.out))).mono ?_;rintro e _ ⟨rfl,rfl⟩;go_wp2_with fail;refine (Mx.Xw _ _).mono ?_;rintro e _ ⟨rfl,rfl⟩;have HV:=q9 (Eq.refl (atW (qw s.l (a+2))));generalize atW (qw s.l (a+2))=a2 at HE HV ⊢;go_wp2_with fail;go_roundw;case rel=>exact ⟨k,a2,T,rfl,HR9.out,by rw [← HTT.out];exact HT2.out,by rw [← HTT.out,List.length_append,List.length_singleton];have:=HK.out.1;omega,by rw [← HTT.out];exact HE.out,HO.out.up HE9.out,HE9.out⟩
     case measure =>
      show s.l.length+1 - sliceLen (.slice a9 T.length c9)<s.l.length+1 - sliceLen u5;rw [HU.out,show sliceLen (.slice a9 T.length c9)=T.length from rfl,← HTT.out,List.length_append,List.length_singleton];have:=HK.out.2;omega
def ofW (f:Int→Int) (L:List Int) (key:Int):Int:=L.foldl (fun b x=>if f x≤key then x else b) 0
theorem q91 {f:Int→Int} {L:List Int} {i:Nat} {x:Int} (hx:L[i]? = some x) (key:Int):ofW f (L.take (i+1)) key=if f x≤key then x else ofW f (L.take i) key:=by unfold ofW;rw [List.take_add_one,hx,Option.toList_some,List.foldl_append];rfl
def OfAt (s:St) (L:List Int) (key:Int) (W:World) (bv x:Value) (wr:World):Prop:=∃ i:Nat,i≤L.length∧x = .int .i64 (i:Nat)∧bv = .int .i64 (ofW (qw s.l) (L.take i) key)∧Fr [] W wr
set_option maxRecDepth 100000 in
set_option maxHeartbeats 3200000 in
theorem rof_any (t wd v key:Int) (n p q:Nat) (s:St) (w:World) (ht:1≤t) (ht2:t≤8) (h1:1≤n) (h2:n≤16) (hA:Rar w p q s) :
  Calls Tryz.prog 19 #[.agg #[.int .i64 t,.int .i64 n,.int .i64 wd,.int .i64 v],.pointer (some ⟨p,0,none⟩),.int .i64 key] w fun e w'=>e = .returned (.int .i64 (ofW (qw s.l) (q7p (qw s.l) s.l.length n t) key))∧Fr [] w w':=by
 have hlo:=hA.lo;have hhi:=hA.hi;have F0:=(Fr.refl [] w).alloc (.cells #[.int .i64 t,.int .i64 n,.int .i64 wd,.int .i64 v] 23);have o1:=Ob.new w 23 #[.int .i64 t,.int .i64 n,.int .i64 wd,.int .i64 v];have HR:=q9 (fun (wz:World) (Fz:Fr [] w wz)=>hA.kept Fz A0b A0b);have HT:=q9 (qc (qc ht ht2) (qc h1 h2));obtain ⟨c0,c1,c2,c3⟩:=Pl.yp o1;clear hA ht ht2 h1 h2;have hTo:=q6r (qw s.l) s.l.length n t;go_enter Tryz.func19,Tryz.ntmps19;go_wp2_with fail;generalize World.alloc w _=w1 at *;refine (q9x t wd v n p q s _ HT.out.1.1 HT.out.1.2 HT.out.2.1 HT.out.2.2 (HR.out _ F0)).mono ?_;rintro e w2 ⟨⟨u,rfl,hu⟩,F2⟩;have HG:=q9 (F0.trans F2);have HTo:=q9 hTo;have hll:=hTo.le;generalize hL:q7p (qw s.l) s.l.length n t=L at *;have HL:=q9 hL;clear hL;have hs:=q9 (Sq.own hu);obtain ⟨au,cu,rfl,-,-⟩:=Qc hu;clear F0 F2 c0 c1 c2 c3 o1 hu hTo;go_wp2_with fail;go_loopw [8,9] (fun bv x wr=>OfAt s L key w2 bv x wr) (fun _ x _=>L.length - (RowKit.intOf x).toNat);case atStart=>exact ⟨0,by omega,rfl,rfl,Fr.refl _ _⟩
 case round =>
  obtain ⟨i,hi,rfl,rfl,F⟩:=hrel;by_cases hlt:i<L.length
  ·have q1:decide ((i:Int)<(L.length:Int))=true:=by simp;omega
   have q2:decide (i<L.length)=true:=decide_eq_true hlt;obtain ⟨x,hx⟩:∃ x,L[i]? = some x:=⟨L[i],List.getElem?_eq_getElem hlt⟩;have hbd:=qea (HTo.out.at_ x (List.mem_of_getElem? hx));have hw:wrap64 x=x:=w64 A0a A0a;have hof:=q91 (f:=qw s.l) hx key;obtain ⟨-,g,off,e,hc⟩:=Sq.cell q10 (hs.out.up F) hx;have hc0:wr.cell? ⟨g,off+i,none⟩=some (.int .i64 x):=by simpa using hc 0 _ rfl
   subst e;have HI:=q9 (qc hlt hof);have HF:=q9 F;clear F hi hc hof hx;go_wp2_with fail;refine (Ref.vk _ p q s _ (HR.out _ (HG.out.trans HF.out))).mono ?_;rintro e _ ⟨rfl,rfl⟩;by_cases hk:qw s.l x≤key
   ·have q3:decide (qw s.l x≤key)=true:=decide_eq_true hk;have HN:=q9 (HI.out.2.trans (qf hk));clear hk;exact Py
   ·have q3:decide (qw s.l x≤key)=false:=decide_eq_false hk;have HN:=q9 (HI.out.2.trans (qd hk));clear hk;generalize ofW (qw s.l) (L.take i) key=bx at *;exact Py
  ·obtain rfl:i=L.length:=by omega
   have q1:decide ((L.length:Int)<(L.length:Int))=false:=by simp
   rw [List.take_length];have HF:=q9 F;generalize hbx:ofW (qw s.l) L key=bx at *;have HBX:=q9 hbx;clear F hbx;go_wp2_with fail;go_ret;exact ⟨by rw [HL.out,HBX.out];rfl,HG.out.trans HF.out⟩
end Go.Proofs.YthokjbikomjhgaaGreatDoor.Rf
namespace Go.Proofs.YthokjbikomjhgaaGreatDoor.Pick
open Go.RowKit Go.Proofs.YthokjbikomjhgaaGreatDoor.Ar Go.Proofs.YthokjbikomjhgaaGreatDoor.Ref Go.Proofs.YthokjbikomjhgaaGreatDoor.Mx Go.Proofs.YthokjbikomjhgaaGreatDoor.Rf Go.Proofs.YthokjbikomjhgaaGreatDoor.Ch
set_option linter.unusedVariables false
set_option linter.unusedSimpArgs false
/-- A chunk that lies within the words. -/
def PickOk (c : Cf) (len : Nat) (k : Int) : Prop := 0 ≤ k ∧ k + 7 + 3 * c.c ≤ len
theorem fN_map (L : List Int) : L.flatMap fN = L.map (fun x => Value.int .i64 x) := by
  induction L with
  | nil => rfl
  | cons x r ih => rw [List.flatMap_cons, ih]; rfl
theorem fN_get {L : List Int} {k : Nat} {x : Int} (h : L[k]? = some x) : (L.flatMap fN)[k]? = some (.int .i64 x) := by
  rw [fN_map, List.getElem?_map, h]; rfl
theorem told_ok {c : Cf} {n len : Nat} {L : List Int} (hn : c.c = n) (h : Ch.Told len n L) {k : Nat} {x : Int} (hx : L[k]? = some x) : PickOk c len x := by
  have := h.2 x (List.mem_of_getElem? hx);unfold Vw.Z8 at this;simp only [Bool.and_eq_true, decide_eq_true_eq] at this;unfold PickOk;omega
set_option maxRecDepth 100000 in
set_option maxHeartbeats 1600000 in
theorem q98 (c : Cf) (hc : c.Ok) (i : Int) (hi : 0 ≤ i ∧ i ≤ 255) (p q : Nat) (s : St) (w : World) (hA : Rar w p q s) (hl : (s.l.length : Int) = c.wd) :
    Calls Tryz.prog 25 #[c.val, .pointer (some ⟨p, 0, none⟩), .int .u8 i] w fun e w' => (∃ k, e = .returned (.int .i64 k) ∧ PickOk c s.l.length k) ∧ Fr [] w w' := by
  have F0 := (Fr.refl [] w).alloc (.cells #[.int .i64 c.t, .int .i64 c.c, .int .i64 c.wd, .int .i64 c.v] 23);have o1 := Ob.new w 23 #[.int .i64 c.t, .int .i64 c.c, .int .i64 c.wd, .int .i64 c.v];obtain ⟨n, hn⟩ : ∃ n : Nat, c.c = n := ⟨c.c.toNat, by have := hc.c2; have := hc.t1; omega⟩;have HC := q9 (qc hc (qc hn (qc hi hl)));have hR := hA.kept F0 A0b A0b;unfold Cf.val;rw [hn] at o1 F0 hR ⊢;have HN := q9 hn;clear hn hc hA hi hl;obtain ⟨c0, c1, c2, c3⟩ := Pl.yp o1;go_enter Tryz.func25, Tryz.ntmps25;go_wp2_with fail;generalize World.alloc w _ = w1 at *;generalize w.heap.size = bc at *;refine (q9x c.t c.wd c.v n p q s w1 HC.out.1.t1 HC.out.1.t8 (by have := HC.out.1.c2; have := HC.out.1.t1; have := HN.out; omega) (by have := HC.out.1.c16; have := HN.out; omega) hR).mono ?_; rintro e w2 ⟨⟨u, rfl, hu⟩, F2⟩;have hT := q6r (qw s.l) s.l.length n c.t;generalize q7p (qw s.l) s.l.length n c.t = L at *;have G := F0.trans F2;replace o1 := o1.up F2;obtain ⟨a2, k2, rfl, hk2, hm2, hh⟩ := Sq.own (f := fN) hu;have HT := q9 hT;have HG := q9 G;clear hu hR F0 F2 c0 c1 c2 c3 G hT;unfold maxLen at hm2;by_cases h0 : L.length = 0
  · have g : ((L.length : Int) == 0) = true := by simp [h0]
    obtain ⟨c0, c1, c2, c3⟩ := Pl.yp o1
    clear hh h0
    go_wp2_with fail
    refine (Ref.Xc c.t n c.wd c.v HC.out.1.t1 HC.out.1.t8 _).mono ?_; rintro e w3 ⟨rfl, F3⟩
    go_wp2_with fail
    go_ret
    refine ⟨⟨_, rfl, ?_⟩, HG.out.trans F3⟩
    have h1 := HC.out.1.top; have h2 := HC.out.1.t1; have h3 := HC.out.2.2.2
    unfold PickOk
    omega
  · have g : ((L.length : Int) == 0) = false := by simpa using h0
    have hi := HC.out.2.2.1
    obtain h0' | ⟨gb, off, rfl, hg, hcell⟩ := hh
    · exact absurd h0' h0
    obtain ⟨j, hj⟩ : ∃ j : Nat, i % (L.length : Int) = j := ⟨(i % (L.length : Int)).toNat, by have := Int.emod_nonneg i (show (L.length : Int) ≠ 0 by omega); omega⟩
    have hjl : j < L.length := by have := Int.emod_lt_of_pos i (show (0 : Int) < L.length by omega); omega
    have htm : Int.tmod i (L.length : Int) = j := by rw [Int.tmod_eq_emod_of_nonneg hi.1]; exact hj
    have hx : L[j]? = some (L[j]'hjl) := List.getElem?_eq_getElem hjl
    generalize L[j]'hjl = x at *
    have hc := hcell j _ (fN_get hx)
    have HX := q9 (told_ok HC.out.2.1 HT.out hx)
    clear hcell hx h0
    go_wp2_with fail
    go_ret
    exact ⟨⟨x, rfl, HX.out⟩, HG.out⟩
end Go.Proofs.YthokjbikomjhgaaGreatDoor.Pick
namespace Go.Proofs.YthokjbikomjhgaaGreatDoor.Kp
open Go.RowKit Go.Proofs.YthokjbikomjhgaaGreatDoor.Ar Go.Proofs.YthokjbikomjhgaaGreatDoor.Mx
set_option linter.unusedVariables false
set_option linter.unusedSimpArgs false
theorem key1_new {out:List Int} {x:It} (h:out.getLast? ≠ some x.k):key1 out x=out++[x.k]:=by unfold key1;rw [qd h]
theorem key1_old {out:List Int} {x:It} (h:out.getLast? = some x.k):key1 out x=out:=by unfold key1;rw [qf h]
theorem keysS_step {s:List It} {i:Nat} {x:It} (hx:s[i]? = some x):keysS (s.take (i+1))=key1 (keysS (s.take i)) x:=by unfold keysS;rw [List.take_add_one,hx,List.foldl_append];rfl
theorem key1_len (out:List Int) (x:It):(key1 out x).length≤out.length+1:=by unfold key1;split <;> simp
def RKyAt (w:World) (s:List It) (u x:Value) (wr:World):Prop :=
 ∃ i:Nat,i≤s.length∧x = .int .i64 (i:Nat)∧(keysS (s.take i)).length≤i∧wr.ownsRow w.heap.size 3 1 u (keysS (s.take i)).length ((keysS (s.take i)).flatMap fI)∧Fr [] w wr
set_option maxRecDepth 100000 in
set_option maxHeartbeats 3200000 in
theorem rkeys_any (l:List It) (v:Value) (w:World) (hl:l.length≤1000) (h:Sq fT w v l) :
  Calls Tryz.prog 41 #[v] w fun e w'=>(∃ u,e = .returned u∧w'.ownsRow w.heap.size 3 1 u (keysT l).length ((keysT l).flatMap fI))∧Fr [] w w':=by
 unfold keysT;go_enter Tryz.func41,Tryz.ntmps41;go_wp2_with fail;refine (q8u l v w hl h).mono ?_;rintro e w1 ⟨⟨u1,rfl,r1⟩,F1⟩;have hs1:(Zh l).length≤1000:=by rw [Xh];exact hl
 generalize hso:Zh l=s at *;have HSO:=q9 hso;clear hso;obtain ⟨asl,csl,rfl,hcs,hms,-⟩:=id (Sq.own (f:=fT) r1);have S1:=Sq.own (f:=fT) r1;have HF1:=q9 F1;clear r1 h F1;go_wp2_with fail;go_loopw [4,5] (RKyAt w1 s) (fun _ x _=>s.length - (match x with | .int _ z=>z.toNat | _=>0));case atStart=>exact ⟨0,by omega,rfl,by simp [keysS],⟨rfl,.inl ⟨rfl,rfl⟩⟩,Fr.refl _ _⟩
 case round =>
  obtain ⟨i,hi,rfl,hlen,hr,F⟩:=hrel;by_cases hlt:i<s.length
  ·obtain ⟨x,hx⟩:∃ x,s[i]? = some x:=⟨s[i],List.getElem?_eq_getElem hlt⟩;have hltz:(i:Int)<(s.length:Int):=by omega
   have hi0:(0:Int)≤(i:Int):=by omega
   have hin:((i:Int)).toNat=i:=by omega
   have HS:=q9 (keysS_step hx);obtain ⟨gs,os,rfl,x0,x1,x2⟩:=xj (S1.up F) hx;generalize hout:keysS (s.take i)=out at *;have HO:=q9 hout;have HR:=q9 (qc hr F);obtain ⟨ao,co,rfl,hco,hcm,-⟩:=id (Sq.own (f:=fI) hr);have SO:=Sq.own (f:=fI) hr;by_cases he:out=[]
   ·have hol:out.length=0:=by rw [he];rfl
    have holz:((out.length:Int) == 0)=true:=by rw [hol];rfl
    have HN:=q9 (key1_new (out:=out) (x:=x) (by rw [he];simp));have hol2:out.length≤0:=by omega
    clear hx F S1 hout hr SO he hol;go_wp2_with fail;refine R7 A09 A09 ?_;have k0:=qb x0;repeat (go_big_quiet_step (fail))
    refine wpQuiet_nil ?_;intro w5 F5;clear k0;exact Po
   ·obtain ⟨m,hm⟩:∃ m,out.length=m+1:=⟨out.length - 1,by have:=List.length_pos_iff.2 he;omega⟩;obtain ⟨z,hz⟩:∃ z,out[m]? = some z:=⟨out[m],List.getElem?_eq_getElem A0a⟩;have hlast:out.getLast? = some z:=by rw [List.getLast?_eq_getElem?,show out.length - 1=m by omega];exact hz
    have holz:((out.length:Int) == 0)=false:=by simp;omega
    have hmz:(out.length:Int) - 1=(m:Int):=by omega
    have hm1:(m:Int)<(out.length:Int):=by omega
    have hm0:(0:Int)≤(m:Int):=by omega
    have hmt:((m:Int)).toNat=m:=by omega
    obtain ⟨go,oo,rfl,z0⟩:=X0 SO hz;by_cases hzk:z=x.k
    ·have HN:=q9 (key1_old (x:=x) (by rw [hlast,hzk]));have hzb:(z != x.k)=false:=by simpa using hzk
     clear hx F S1 hout hr SO he hm hz hlast hzk;go_wp2_with fail;refine R7 A09 A09 ?_;have k0:=qb x0;have k1:=qb z0;repeat (go_big_quiet_step (fail))
     refine wpQuiet_nil ?_;intro w5 F5;clear k0;clear k1;have r5:=qo HR.out.1 F5;go_wp2_with fail;go_roundw;case rel=>exact ⟨i+1,by omega,by simp,by rw [HS.out,HN.out];omega,by rw [HS.out,HN.out];exact r5,HR.out.2.trans F5⟩
     case measure=>simp;omega
    ·have HN:=q9 (key1_new (x:=x) (by rw [hlast];exact fun e=>hzk (qi e)));have hzb:(z != x.k)=true:=by simpa using hzk
     clear hx F S1 hout hr SO he hm hz hlast hzk;go_wp2_with fail;refine R7 A09 A09 ?_;have k0:=qb x0;have k1:=qb z0;repeat (go_big_quiet_step (fail))
     refine wpQuiet_nil ?_;intro w5 F5;clear k0;clear k1;exact Po
  ·have hltz:¬ (i:Int)<(s.length:Int):=by omega
   have hie:s.length≤i:=by omega
   rw [List.take_of_length_le hie] at hr;have HR:=q9 (qc hr F);clear hr F S1;go_wp2_with fail;go_ret;obtain ⟨r9,F9⟩:=HR.out;refine ⟨⟨_,rfl,?_⟩,HF1.out.trans F9⟩;rw [HSO.out];refine ⟨r9.1,r9.2.imp id ?_⟩;rintro ⟨g,cap,cur,e1,e2,e3⟩;exact ⟨g,cap,cur,e1,qh HF1.out.size e2,e3⟩
end Go.Proofs.YthokjbikomjhgaaGreatDoor.Kp
namespace Go.Proofs.YthokjbikomjhgaaGreatDoor.Kp
open Go.RowKit Go.Proofs.YthokjbikomjhgaaGreatDoor.Ar Go.Proofs.YthokjbikomjhgaaGreatDoor.Mx
set_option linter.unusedVariables false
set_option linter.unusedSimpArgs false
def latV (o:Option It):Value:=.tuple #[.agg #[.int .i64 (o.getD ⟨0,0,0⟩).k,.int .i64 (o.getD ⟨0,0,0⟩).v,.int .i64 (o.getD ⟨0,0,0⟩).d],.bool o.isSome]
def foldL (k v:Int) (l:List It):Option It:=l.foldl (lat1 k v) none
theorem foldL_step {k v:Int} {l:List It} {i:Nat} {x:It} (hx:l[i]? = some x):foldL k v (l.take (i+1))=lat1 k v (foldL k v (l.take i)) x:=by unfold foldL;rw [List.take_add_one,hx,List.foldl_append];rfl
theorem lat1_old {k v:Int} {o:Option It} {x:It} (h:¬ (x.k=k∧x.v≤v)):lat1 k v o x=o:=by unfold lat1;rw [qd (fun hh=>h ⟨hh.1,hh.2.1⟩)]
theorem lat1_new {v:Int} {o:Option It} {x:It} (h:x.v≤v) (ho:o.all (fun y=>decide (y.v≤x.v))=true):lat1 x.k v o x=some x:=by unfold lat1;rw [qf ⟨rfl,h,ho⟩]
theorem lat1_less {k v:Int} {y x:It} (h:¬ y.v≤x.v):lat1 k v (some y) x=some y:=by unfold lat1;rw [qd (fun hh=>h (by simpa using hh.2.2))]
theorem set3 {w:World} {q:Nat} {T:TypeId} {x y z:Value} (h:Ob w q T #[x,y,z]) (a b c:Value):Ob (((w.setCell ⟨q,0,none⟩ a).setCell ⟨q,1,none⟩ b).setCell ⟨q,2,none⟩ c) q T #[a,b,c]:=((h.set (i:=0) a).set (i:=1) b).set (i:=2) c
theorem fr3 {w w':World} {q:Nat} (f:Fr [] w w') (a b c:Value) (hq:w.heap.size≤q):Fr [] w (((w'.setCell ⟨q,0,none⟩ a).setCell ⟨q,1,none⟩ b).setCell ⟨q,2,none⟩ c) :=
 f.own (((Fr.setCell (S:=[q]) a A0b).setCell' b A0b).setCell' c A0b) (by simpa using hq)
end Go.Proofs.YthokjbikomjhgaaGreatDoor.Kp
namespace Go.Proofs.YthokjbikomjhgaaGreatDoor.Kp
open Go.RowKit Go.Proofs.YthokjbikomjhgaaGreatDoor.Ar Go.Proofs.YthokjbikomjhgaaGreatDoor.Mx
set_option linter.unusedVariables false
set_option linter.unusedSimpArgs false
def RLtAt (w:World) (l:List It) (key version:Int) (p:Nat) (u8 u9:Value) (wr:World):Prop :=
 ∃ i:Nat,i≤l.length∧u9 = .int .i64 (i:Nat)∧((foldL key version (l.take i)=none∧u8 = .int .i64 (-1))∨∃ (j:Nat) (c:It),foldL key version (l.take i)=some c∧u8 = .int .i64 (j:Nat)∧l[j]? = some c) ∧
  wr.heap[p]? = some (.cells #[.int .i64 0,.int .i64 0,.int .i64 0] 74 (0,0))∧Fr [] w wr
theorem neg1:((-1:Int)<0):=by omega
set_option maxRecDepth 100000 in
set_option maxHeartbeats 3200000 in
theorem rlatest_any (l:List It) (v:Value) (key version:Int) (w:World) (hl:l.length≤1000) (h:Sq fT w v l) :
  Calls Tryz.prog 42 #[v,.int .i64 key,.int .i64 version] w fun e w'=>e = .returned (latV (latT l key version))∧Fr [] w w':=by
 obtain ⟨av,cv,rfl,hcv,hmv,-⟩:=id h;go_enter Tryz.func42,Tryz.ntmps42;go_wp2_with fail;go_loopw [8,9] (RLtAt w l key version w.heap.size) (fun _ x _=>l.length - (match x with | .int _ z=>z.toNat | _=>0));case atStart=>exact ⟨0,by omega,rfl,.inl ⟨rfl,rfl⟩,Go.heap_alloc_new w _,(Fr.refl [] w).alloc _⟩
 case round =>
  obtain ⟨i,hi,rfl,hb,hp,F⟩:=hrel;by_cases hlt:i<l.length
  ·obtain ⟨x,hx⟩:∃ x,l[i]? = some x:=⟨l[i],List.getElem?_eq_getElem hlt⟩;have hltz:(i:Int)<(l.length:Int):=by omega
   have hi0:(0:Int)≤(i:Int):=by omega
   have hin:((i:Int)).toNat=i:=by omega
   have HS:=q9 (foldL_step (k:=key) (v:=version) hx);have hS:=h.up F;obtain ⟨gs,os,rfl,x0,x1,x2⟩:=xj hS hx;have HQ:=q9 (qc hp F);have HX:=q9 hx;rcases hb with ⟨hfo,rfl⟩ | ⟨j,c,hfo,rfl,hj⟩
   ·have HO:=q9 hfo;clear hx hp F h hS hfo;by_cases hk:x.k=key
    ·obtain rfl:=hk;by_cases hv:x.v≤version
     ·have hvb:decide (x.v≤version)=true:=decide_eq_true hv;go_wp2_with fail;refine R7 A09 A09 ?_;have k0:=qb x0;have k1:=qb x1;repeat (go_big_quiet_step (fail))
      refine wpQuiet_nil ?_;intro w1 F1;clear k0 k1;go_wp2_with fail;go_roundw;case rel=>exact ⟨i+1,by omega,by simp,.inr ⟨i,x,by rw [HS.out,HO.out,lat1_new A0a A0b],rfl,HX.out⟩,F1.heap HQ.out.1 A0b,HQ.out.2.trans F1⟩
      case measure=>simp;omega
     ·have hvb:decide (x.v≤version)=false:=decide_eq_false hv;exact Ps
    ·have hkn:(x.k == key)=false:=by simpa using hk
     exact Ps
   ·have hjl:j<l.length:=(List.getElem?_eq_some_iff.1 hj).1;have hjz:(j:Int)<(l.length:Int):=by omega
    have hj0:(0:Int)≤(j:Int):=by omega
    have hjn:decide ((j:Int)<0)=false:=decide_eq_false A0a;have hjt:((j:Int)).toNat=j:=by omega
    obtain ⟨gs2,os2,e1,y0,y1,y2⟩:=xj hS hj;cases e1;have HO:=q9 (qc hfo hj);clear hx hp F h hS hfo hj;by_cases hk:x.k=key
    ·obtain rfl:=hk;by_cases hv:x.v≤version
     ·have hvb:decide (x.v≤version)=true:=decide_eq_true hv;by_cases hvv:c.v≤x.v
      ·skip;go_wp2_with fail;refine R7 A09 A09 ?_;have k0:=qb x0;have k1:=qb x1;have l1:=qb y1;repeat (go_big_quiet_step (fail))
       refine wpQuiet_nil ?_;intro w1 F1;clear k0 k1 l1;go_wp2_with fail;go_roundw;case rel=>exact ⟨i+1,by omega,by simp,.inr ⟨i,x,by rw [HS.out,HO.out.1,lat1_new A0a (by simpa using hvv)],rfl,HX.out⟩,F1.heap HQ.out.1 A0b,HQ.out.2.trans F1⟩
       case measure=>simp;omega
      ·skip;go_wp2_with fail;refine R7 A09 A09 ?_;have k0:=qb x0;have k1:=qb x1;have l1:=qb y1;repeat (go_big_quiet_step (fail))
       refine wpQuiet_nil ?_;intro w1 F1;clear k0 k1 l1;go_wp2_with fail;go_roundw;case rel=>exact ⟨i+1,by omega,by simp,.inr ⟨j,c,by rw [HS.out,HO.out.1,lat1_less A0a],rfl,HO.out.2⟩,F1.heap HQ.out.1 A0b,HQ.out.2.trans F1⟩
       case measure=>simp;omega
     ·have hvb:decide (x.v≤version)=false:=decide_eq_false hv;exact Pp
    ·have hkn:(x.k == key)=false:=by simpa using hk
     exact Pp
  ·have hltz:¬ (i:Int)<(l.length:Int):=by omega
   have hie:l.length≤i:=by omega
   have HF:=q9 (qc hp F);obtain ⟨p0,p1,p2⟩:=cells3 hp;have f0:=Ob.frozen hp 0;have f1:=Ob.frozen hp 1;have f2:=Ob.frozen hp 2;rw [List.take_of_length_le hie] at hb;rcases hb with ⟨hfo,rfl⟩ | ⟨j,c,hfo,rfl,hj⟩
   ·have HO:=q9 hfo;clear hp F h hfo;go_wp2_with fail;obtain ⟨e0,e1,e2⟩:=cells3 (set3 HF.out.1 (.int .i64 0) (.int .i64 0) (.int .i64 0));have HR:=q9 (fr3 HF.out.2 (.int .i64 0) (.int .i64 0) (.int .i64 0) (Nat.le_refl w.heap.size));generalize ((wr.setCell ⟨w.heap.size,0,none⟩ (.int .i64 0)).setCell ⟨w.heap.size,1,none⟩ (.int .i64 0)).setCell ⟨w.heap.size,2,none⟩ (.int .i64 0)=w9 at *;refine bodyPost_ret (v:=.tuple #[.agg #[.int .i64 0,.int .i64 0,.int .i64 0],.bool false]) A0h rfl ⟨?_,HR.out⟩;rw [show latT l key version=none from HO.out];rfl
   ·have hjl:j<l.length:=(List.getElem?_eq_some_iff.1 hj).1;have hjz:(j:Int)<(l.length:Int):=by omega
    have hj0:(0:Int)≤(j:Int):=by omega
    have hjn:¬ (j:Int)<0:=by omega
    have hjt:((j:Int)).toNat=j:=by omega
    have HO:=q9 hfo;obtain ⟨gs,os,rfl,y0,y1,y2⟩:=xj (h.up F) hj;clear hp F h hfo hj;go_wp2_with fail;obtain ⟨e0,e1,e2⟩:=cells3 (set3 HF.out.1 (.int .i64 c.k) (.int .i64 c.v) (.int .i64 c.d));have HR:=q9 (fr3 HF.out.2 (.int .i64 c.k) (.int .i64 c.v) (.int .i64 c.d) (Nat.le_refl w.heap.size));generalize ((wr.setCell ⟨w.heap.size,0,none⟩ (.int .i64 c.k)).setCell ⟨w.heap.size,1,none⟩ (.int .i64 c.v)).setCell ⟨w.heap.size,2,none⟩ (.int .i64 c.d)=w9 at *;refine bodyPost_ret (v:=.tuple #[.agg #[.int .i64 c.k,.int .i64 c.v,.int .i64 c.d],.bool true]) A0h rfl ⟨?_,HR.out⟩;rw [show latT l key version=some c from HO.out];rfl
end Go.Proofs.YthokjbikomjhgaaGreatDoor.Kp
