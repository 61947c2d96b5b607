/- Texts that this proof leans on, one behind the other: Ek5, Ek6, Dk5. -/
import Derived.Test.YtjhefbenmhmbcaaDoorQaa
import Derived.Test.YtjhefbenmhmbcaaDoorQab
import Derived.Test.YtjhefbenmhmbcaaDoorQaq
import Derived.Test.YtjhefbenmhmbcaaDoorQas
set_option linter.unusedVariables false
set_option linter.unusedSimpArgs false
set_option maxRecDepth 100000
set_option maxHeartbeats 12800000
namespace Go.Proofs.YtjhefbenmhmbcaaDoor.Ek
open Go.RowKit Go.Maps Go.Proofs.YtjhefbenmhmbcaaDoor.Ar Go.Proofs.YtjhefbenmhmbcaaDoor.Mx Go.Proofs.YtjhefbenmhmbcaaDoor.Vw Go.Proofs.YtjhefbenmhmbcaaDoor.Ch
section
variable {o:Nat} {T:TypeId} {pre post:Array Value}
def keyG (l:List It) (k:Int):Option It:=l.find? (fun y=>y.k == k)
theorem item_key (l:List It) (k:Int):(itemN l k=none∧keyG l k=none)∨∃ i y,itemN l k=some i∧l[i]? = some y∧keyG l k=some y∧y.k=k:=by
 unfold itemN keyG
 induction l with
 | nil=>exact .inl ⟨rfl,rfl⟩
 | cons z r ih =>
  rw [List.findIdx?_cons,List.find?_cons]
  by_cases h:(z.k == k)=true
  ·rw [if_pos h,h];exact .inr ⟨0,z,rfl,rfl,rfl,by simpa using h⟩
  ·have hf:(z.k == k)=false:=by simpa using h
   rw [hf]
   rcases ih with ⟨h1,h2⟩ | ⟨i,y,h1,h2,h3,h4⟩
   ·left;simp only [Bool.false_eq_true,if_false];rw [h1,h2];exact ⟨rfl,rfl⟩
   ·right;simp only [Bool.false_eq_true,if_false];rw [h1,h3];exact ⟨i+1,y,rfl,by simpa using h2,rfl,h4⟩
theorem key_ins (x:It) (k:Int):∀ (l:List It),keyG l x.k=none→keyG (insK l x) k=if k=x.k then some x else keyG l k
 | [],_=>by
  unfold insK keyG
  by_cases h:k=x.k
  ·rw [if_pos h,h];simp
  ·rw [if_neg h,List.find?_cons,show (x.k == k)=false by simpa using Ne.symm h]
 | z :: r,hl=>by
  unfold insK
  have hz:(z.k == x.k)=false:=by
   cases e:(z.k == x.k) with
   | false=>rfl
   | true=>unfold keyG at hl;rw [List.find?_cons,e] at hl;cases hl
  have hr:keyG r x.k=none:=by unfold keyG at hl ⊢;rw [List.find?_cons,hz] at hl;exact hl
  split
  ·have:=key_ins x k r hr
   unfold keyG at this ⊢
   rw [List.find?_cons,List.find?_cons,this]
   by_cases h:k=x.k
   ·rw [h,hz];try simp
   ·rw [if_neg h,if_neg h]
  ·unfold keyG
   rw [List.find?_cons]
   by_cases h:k=x.k
   ·rw [if_pos h,h];simp
   ·rw [if_neg h,show (x.k == k)=false by simpa using Ne.symm h]
theorem key_set (x:It) (k:Int):∀ (l:List It) (i:Nat),itemN l x.k=some i→keyG (l.set i x) k=if k=x.k then some x else keyG l k
 | [],i,h=>by simp [itemN] at h
 | z :: r,i,h=>by
  unfold itemN at h
  rw [List.findIdx?_cons] at h
  by_cases e:(z.k == x.k)=true
  ·rw [if_pos e] at h
   obtain rfl:=Option.some.inj h
   have ez:z.k=x.k:=by simpa using e
   rw [List.set_cons_zero]
   unfold keyG
   rw [List.find?_cons,List.find?_cons,ez]
   by_cases hk:k=x.k
   ·rw [if_pos hk,hk];simp
   ·rw [if_neg hk,show (x.k == k)=false by simpa using Ne.symm hk]
  ·have ef:(z.k == x.k)=false:=by simpa using e
   rw [if_neg e] at h
   obtain ⟨j,hj,rfl⟩:=Option.map_eq_some_iff.1 h
   have:=key_set x k r j hj
   rw [List.set_cons_succ]
   unfold keyG at this ⊢
   rw [List.find?_cons,List.find?_cons,this]
   by_cases hk:k=x.k
   ·rw [hk,ef];try simp
   ·rw [if_neg hk,if_neg hk]
theorem key_put (l:List It) (x:It):keyG (putK l x)=putG (keyG l) x:=by
 funext k
 unfold putK putG
 rcases item_key l x.k with ⟨h1,h2⟩ | ⟨i,y,h1,-,-,-⟩
 ·rw [h1];exact key_ins x k l h2
 ·rw [h1];exact key_set x k l i h1
def dk (x:Lok) (cell ln:Int):Dc:=⟨x.most,x.chunk,x.lo,x.hi,x.c.c,x.count,cell,ln,x.s,x.k,x.g⟩
def lnD (x:Lok):Int:=if x.line=0 then 7 else x.line - 1
def After (x:Lok) (y:Dc) (ln:Int):Prop:=∃ cell,(x.line≠0→cell=x.i)∧ln=lnD x∧∀ l,{ y with line:=l } = dk x cell l
theorem after_on (x:Lok) (ln:Int):After x.on (dk x x.i ln).on (dk x x.i ln).onL:=by
 unfold Lok.on Dc.on Dc.onL Dc.stand Dc.standL dk After lnD
 simp only
 by_cases h:x.count≤x.i+1
 ·rw [if_pos h,if_pos h,if_pos h];exact ⟨x.i,fun e=>absurd rfl e,rfl,fun _=>rfl⟩
 ·rw [if_neg h,if_neg h,if_neg h];exact ⟨x.i+1,fun _=>rfl,rfl,fun _=>rfl⟩
theorem skips_iff (x:Lok) (ln:Int) (hs:3≤x.s∧x.s≤9223372036854775807):(dk x x.i ln).skips (keyG x.l)↔x.skips=true:=by
 unfold Dc.skips Lok.skips verG dk
 have hv:0≤verV x.s:=by unfold verV;rw [if_neg (by omega),w64 (by omega) (by omega)];omega
 rw [show verW x.s=verV x.s from rfl]
 simp only [Bool.or_eq_true,decide_eq_true_eq]
 rcases item_key x.l x.k with ⟨h1,h2⟩ | ⟨i,y,h1,h2,h3,-⟩
 ·rw [h1,h2];simp only [Option.map_none,Option.getD_none];constructor
  ·rintro (h | h)
   ·exact .inl h
   ·omega
  ·rintro (h | h)
   ·exact .inl h
   ·cases h
 ·rw [h1,h3]
  have e:x.l.getD i ⟨0,0,0⟩=y:=by rw [List.getD_eq_getElem?_getD,h2];rfl
  simp only [Option.map_some,Option.getD_some,decide_eq_true_eq,e]
theorem after_seven (x:Lok) (ln:Int) (hs:3≤x.s∧x.s≤9223372036854775807):After x.seven ((dk x x.i ln).verO (keyG x.l)) ((dk x x.i ln).verL (keyG x.l)):=by
 unfold Lok.seven Dc.verO Dc.verL
 by_cases h:x.skips=true
 ·rw [if_pos h,if_pos ((skips_iff x ln hs).2 h),if_pos ((skips_iff x ln hs).2 h)]
  exact after_on { x with line:=7 } ln
 ·rw [if_neg h,if_neg (fun e=>h ((skips_iff x ln hs).1 e)),if_neg (fun e=>h ((skips_iff x ln hs).1 e))]
  exact ⟨x.i,fun _=>rfl,rfl,fun _=>rfl⟩
theorem seven_l (x:Lok):x.seven.l=x.l:=by unfold Lok.seven Lok.on;split <;> (try split) <;> rfl
theorem on_l (x:Lok):x.on.l=x.l:=by unfold Lok.on;split <;> rfl
def DkIs (w:World) (b o:Nat) (T:TypeId) (pre post:Array Value) (m n:Nat) (x:Lok):Prop:=∃ cell,(x.line≠0→cell=x.i)∧DcAt w b o T pre post m (dk x cell (lnD x))∧GMap w m n (mapG (keyG x.l))
theorem DkIs.kept {S:List Nat} {w w':World} {b m n:Nat} {x:Lok} (h:DkIs w b o T pre post m n x) (F:Fr S w w') (hb:b∉S) (hm:m∉S):DkIs w' b o T pre post m n x:=by
 obtain ⟨cell,h1,h2,h3⟩:=h
 exact ⟨cell,h1,Pc.kept h2 F hb,h3.kept F hm⟩
structure LkS (x:Lok):Prop where
 hi:-9223372036854775808≤x.lo∧x.hi≤9223372036854775807
 s:3≤x.line→x.s≤9223372036854775807
 s3:x.line=3→x.s=1∨3≤x.s
 s7:x.line=7→3≤x.s
 k:4≤x.line→x.lo≤x.k∧x.k≤x.hi
theorem LkS.new (c:Cf) (chunk lo hi most:Int) (h:-9223372036854775808≤lo∧hi≤9223372036854775807):LkS (Lok.new c chunk lo hi most) :=
 ⟨h,fun e=>by simp [Lok.new] at e,fun e=>by simp [Lok.new] at e,fun e=>by simp [Lok.new] at e,fun e=>by simp [Lok.new] at e⟩
end
section
variable {o:Nat} {T:TypeId} {pre post:Array Value}
theorem access_any (x:Lok) (hl:x.live=true) (ok:LokOk x) (ks:LkS x) (b m n p q:Nat) (s:St) (hs:∀ p,peek s.l p≤9223372036854775807) (w:World) (t:Word.Tab w) (ht:1≠p∧1≠q) (hn:n<100000) (hne:b≠p∧b≠q∧b≠m∧m≠p∧m≠q) (h:DcAt w b o T pre post m (dk x x.i (x.line - 1))) (hA:Ar w p q s) (hm:GMap w m n (mapG (keyG x.l))) :
  Calls Tryd.prog 36 #[.pointer (some ⟨b,o,none⟩),.pointer (some ⟨p,0,none⟩)] w fun e w'=>∃ y,DkPost b o T pre post m n p q w (keyG (x.next (x.told s)).l) y (lnD (x.next (x.told s))) (x.act s) e w'∧After (x.next (x.told s)) y (lnD (x.next (x.told s))):=by
 have hcl:-1≤x.i∧x.i≤1000:=⟨by have:=ok.i0;omega,by have:=ok.i1;omega⟩
 unfold Lok.live at hl
 simp only [Bool.and_eq_true,decide_eq_true_eq] at hl
 have fin:∀ {y:Dc} {ln:Int} {z:Lok} {g:Int→Option It} {s':St},After z y ln→z=x.next (x.told s)→g=keyG z.l→s'=x.act s→∀ e w',DkPost b o T pre post m n p q w g y ln s' e w'→∃ y,DkPost b o T pre post m n p q w (keyG (x.next (x.told s)).l) y (lnD (x.next (x.told s))) (x.act s) e w'∧After (x.next (x.told s)) y (lnD (x.next (x.told s))):=fun {y ln z g s'} ha hz hg hs' e w' hp=>by
  subst hz hg hs'
  obtain ⟨cell,h1,h2,h3⟩:=ha
  subst h2
  exact ⟨y,hp,⟨cell,h1,rfl,h3⟩⟩
 by_cases l1:x.line=1
 ·have e1:x.told s=peek s.l (wrap64 (x.chunk+1)):=by unfold Lok.told;rw [if_pos l1]
  have e2:x.next (x.told s)=({ x with count:=max 0 (min (x.told s) x.c.c),i:=-1 }:Lok).on:=by unfold Lok.next;rw [if_pos l1]
  have e3:x.act s=s.load (wrap64 (x.chunk+1)):=by unfold Lok.act;rw [if_pos l1]
  refine (access0 (dk x x.i (x.line - 1)) _ (by show x.line - 1=0;omega) b m n p q s w hne h hA hm).mono (fin (z:=({ x with count:=max 0 (min (x.told s) x.c.c),i:=-1 }:Lok).on) ?_ e2.symm (by rw [on_l]) e3.symm)
  have hcc:0≤x.c.c:=by have:=ok.c.c2;have:=ok.c.t1;omega
  have hct:min (max (peek s.l (wrap64 (x.chunk+1))) 0) x.c.c=max 0 (min (x.told s) x.c.c):=by rw [e1];omega
  show After _ (({ dk x x.i (x.line - 1) with count:=min (max (peek s.l (wrap64 (x.chunk+1))) 0) x.c.c }:Dc).stand 0) (({ dk x x.i (x.line - 1) with count:=min (max (peek s.l (wrap64 (x.chunk+1))) 0) x.c.c }:Dc).standL 0)
  rw [hct]
  generalize max 0 (min (x.told s) x.c.c)=ct
  unfold Dc.stand Dc.standL Lok.on dk After lnD
  simp only
  by_cases hh:ct≤0
  ·rw [if_pos hh,if_pos hh,if_pos (by omega)];exact ⟨x.i,fun e=>absurd rfl e,rfl,fun _=>rfl⟩
  ·rw [if_neg hh,if_neg hh,if_neg (by omega)];exact ⟨0,fun _=>rfl,rfl,fun _=>rfl⟩
 by_cases l2:x.line=2
 ·have e1:x.told s=peek s.l x.sa:=by unfold Lok.told;rw [if_neg l1,if_pos l2]
  have e3:x.act s=s.load x.sa:=by unfold Lok.act;rw [if_neg l1,if_pos l2]
  have e2:x.next (x.told s)=if x.told s≤0∨x.told s=2 then ({ x with s:=x.told s,line:=3 }:Lok).on else { x with s:=x.told s,line:=3 }:=by unfold Lok.next;rw [if_neg l1,if_pos l2]
  refine (access1 (dk x x.i (x.line - 1)) _ (by show x.line - 1=1;omega) b m n p q s w hcl hne h hA hm).mono (fin (z:=x.next (x.told s)) ?_ rfl ?_ e3.symm)
  ·rw [e2,e1]
   show After _ ({ dk x x.i (x.line - 1) with s:=peek s.l x.sa }:Dc).stO ({ dk x x.i (x.line - 1) with s:=peek s.l x.sa }:Dc).stL
   generalize peek s.l x.sa=v
   unfold Dc.stO Dc.stL
   by_cases hv:v≤0∨v=2
   ·rw [if_pos hv,if_pos (show v≠1∧v<3 by omega),if_pos (show v≠1∧v<3 by omega)]
    exact after_on { x with s:=v,line:=3 } (x.line - 1)
   ·rw [if_neg hv,if_neg (show ¬ (v≠1∧v<3) by omega),if_neg (show ¬ (v≠1∧v<3) by omega)]
    exact ⟨x.i,fun _=>rfl,rfl,fun _=>rfl⟩
  ·rw [e2];split
   ·rw [on_l]
   ·rfl
 by_cases l3:x.line=3
 ·have e1:x.told s=peek s.l (wrap64 (x.sa+1)):=by unfold Lok.told;rw [if_neg l1,if_neg l2,if_pos l3]
  have e3:x.act s=s.load (wrap64 (x.sa+1)):=by unfold Lok.act;rw [if_neg l1,if_neg l2,if_pos l3]
  have e2:x.next (x.told s)=if x.told s<x.lo∨x.hi<x.told s then ({ x with k:=x.told s }:Lok).on else if x.s=1 then { x with k:=x.told s,line:=4 } else ({ x with k:=x.told s }:Lok).seven:=by unfold Lok.next;rw [if_neg l1,if_neg l2,if_pos l3]
  have h3:=ks.s3 l3
  have h4:=ks.s (by omega)
  refine (access2 (dk x x.i (x.line - 1)) _ (by show x.line - 1=2;omega) b m n p q s w hcl ks.hi hne h hA hm).mono (fin (z:=x.next (x.told s)) ?_ rfl ?_ e3.symm)
  ·rw [e2,e1]
   show After _ (({ dk x x.i (x.line - 1) with k:=peek s.l (wrap64 (x.sa+1)) }:Dc).kyO (keyG x.l)) (({ dk x x.i (x.line - 1) with k:=peek s.l (wrap64 (x.sa+1)) }:Dc).kyL (keyG x.l))
   generalize peek s.l (wrap64 (x.sa+1))=v
   unfold Dc.kyO Dc.kyL
   show After _ (if v<x.lo∨x.hi<v then (dk { x with k:=v } x.i (x.line - 1)).on else if x.s=1 then dk { x with k:=v } x.i (x.line - 1) else (dk { x with k:=v } x.i (x.line - 1)).verO (keyG x.l)) (if v<x.lo∨x.hi<v then (dk { x with k:=v } x.i (x.line - 1)).onL else if x.s=1 then 3 else (dk { x with k:=v } x.i (x.line - 1)).verL (keyG x.l))
   by_cases hv:v<x.lo∨x.hi<v
   ·rw [if_pos hv,if_pos hv,if_pos hv]
    exact after_on { x with k:=v } (x.line - 1)
   ·rw [if_neg hv,if_neg hv,if_neg hv]
    by_cases hs1:x.s=1
    ·rw [if_pos hs1,if_pos hs1,if_pos hs1]
     exact ⟨x.i,fun _=>rfl,rfl,fun _=>rfl⟩
    ·rw [if_neg hs1,if_neg hs1,if_neg hs1]
     exact after_seven { x with k:=v } (x.line - 1) ⟨by simp only;omega,h4⟩
  ·rw [e2];split
   ·rw [on_l]
   ·split
    ·rfl
    ·rw [seven_l]
 have hk4:=ks.k (by omega)
 have hwf:(Lit.int .i64 x.k).wf=true:=WalkArith.wf_i64 (by have:=ks.hi;omega)
 by_cases l4:x.line=4
 ·have e1:x.told s=peek s.l 1:=by unfold Lok.told;rw [if_neg l1,if_neg l2,if_neg l3,if_pos l4]
  have e3:x.act s=s.load 1:=by unfold Lok.act;rw [if_neg l1,if_neg l2,if_neg l3,if_pos l4]
  have e2:x.next (x.told s) = { x with g:=x.told s,line:=5 }:=by unfold Lok.next;rw [if_neg l1,if_neg l2,if_neg l3,if_pos l4]
  refine (access3 (dk x x.i (x.line - 1)) _ (by show x.line - 1=3;omega) b m n p q s w hne h hA hm).mono (fin (z:={ x with g:=x.told s,line:=5 }) ?_ e2.symm rfl e3.symm)
  rw [e1];exact ⟨x.i,fun _=>rfl,rfl,fun _=>rfl⟩
 by_cases l5:x.line=5
 ·have e3:x.act s=s.swap x.sa 1 (stateW x.g):=by unfold Lok.act;rw [if_neg l1,if_neg l2,if_neg l3,if_neg l4,if_pos l5]
  have e2:x.next (x.told s) = { x with line:=6 }:=by unfold Lok.next;rw [if_neg l1,if_neg l2,if_neg l3,if_neg l4,if_pos l5]
  refine (access4 (dk x x.i (x.line - 1)) _ (by show x.line - 1=4;omega) b m n p q s w t ht hne h hA hm).mono (fin (z:={ x with line:=6 }) ?_ e2.symm rfl e3.symm)
  exact ⟨x.i,fun _=>rfl,rfl,fun _=>rfl⟩
 by_cases l6:x.line=6
 ·have e1:x.told s=peek s.l x.sa:=by unfold Lok.told;rw [if_neg l1,if_neg l2,if_neg l3,if_neg l4,if_pos l6]
  have e3:x.act s=s.load x.sa:=by unfold Lok.act;rw [if_neg l1,if_neg l2,if_neg l3,if_neg l4,if_neg l5,if_pos l6]
  have e2:x.next (x.told s)=if x.told s<3 then ({ x with s:=x.told s }:Lok).on else ({ x with s:=x.told s }:Lok).seven:=by unfold Lok.next;rw [if_neg l1,if_neg l2,if_neg l3,if_neg l4,if_neg l5,if_pos l6]
  refine (access5 (dk x x.i (x.line - 1)) _ (by show x.line - 1=5;omega) b m n p q s w hcl hwf hne h hA hm).mono (fin (z:=x.next (x.told s)) ?_ rfl ?_ e3.symm)
  ·rw [e2,e1]
   show After _ (({ dk x x.i (x.line - 1) with s:=peek s.l x.sa }:Dc).gvO (keyG x.l)) (({ dk x x.i (x.line - 1) with s:=peek s.l x.sa }:Dc).gvL (keyG x.l))
   have hv2:=hs x.sa
   generalize peek s.l x.sa=v at *
   unfold Dc.gvO Dc.gvL
   by_cases hv:v<3
   ·rw [if_pos hv,if_pos (show v<3 from hv),if_pos (show v<3 from hv)]
    exact after_on { x with s:=v } (x.line - 1)
   ·rw [if_neg hv,if_neg (show ¬ v<3 from hv),if_neg (show ¬ v<3 from hv)]
    exact after_seven { x with s:=v } (x.line - 1) ⟨by simp only;omega,hv2⟩
  ·rw [e2];split
   ·rw [on_l]
   ·rw [seven_l]
 ·have l7:x.line=7:=by omega
  have e1:x.told s=peek s.l (wrap64 (x.sa+2)):=by unfold Lok.told;rw [if_neg l1,if_neg l2,if_neg l3,if_neg l4,if_neg l6]
  have e3:x.act s=s.load (wrap64 (x.sa+2)):=by unfold Lok.act;rw [if_neg l1,if_neg l2,if_neg l3,if_neg l4,if_neg l5,if_neg l6]
  have e2:x.next (x.told s)=({ x with l:=putK x.l ⟨x.k,verW x.s,x.told s⟩ }:Lok).on:=by unfold Lok.next;rw [if_neg l1,if_neg l2,if_neg l3,if_neg l4,if_neg l5,if_neg l6]
  refine (access6 (dk x x.i (x.line - 1)) _ (by show x.line - 1=6;omega) b m n p q s w hcl hwf hn hne h hA hm).mono (fin (z:=({ x with l:=putK x.l ⟨x.k,verW x.s,x.told s⟩ }:Lok).on) ?_ e2.symm ?_ e3.symm)
  ·exact after_on { x with l:=putK x.l ⟨x.k,verW x.s,x.told s⟩ } (x.line - 1)
  ·rw [on_l,key_put,e1];rfl
theorem on_line (x:Lok):0≤x.on.line∧x.on.line≤7:=by unfold Lok.on;split <;> simp
theorem seven_line (x:Lok):0≤x.seven.line∧x.seven.line≤7:=by
 unfold Lok.seven;split
 ·exact on_line _
 ·simp
theorem next_line (x:Lok) (v:Int):0≤(x.next v).line∧(x.next v).line≤7:=by
 unfold Lok.next
 repeat' split
 all_goals first | exact on_line _ | exact seven_line _ | (simp only;omega)
theorem dstep_any (x:Lok) (ok:LokOk x) (ks:LkS x) (hx:0≤x.line∧x.line≤7) (b m n p q:Nat) (s:St) (hs:∀ p,peek s.l p≤9223372036854775807) (w:World) (t:Word.Tab w) (ht:1≠p∧1≠q) (hn:n<100000) (hne:b≠p∧b≠q∧b≠m∧m≠p∧m≠q) (h:DkIs w b o T pre post m n x) (hA:Ar w p q s) :
  Calls Tryd.prog 23 #[.pointer (some ⟨b,o,none⟩),.pointer (some ⟨p,0,none⟩)] w fun e w'=>e = .returned (.bool (decide ((x.step s).1.line=0)))∧(∃ k,k≤n+1∧DkIs w' b o T pre post m k (x.step s).1)∧Ar w' p q (x.step s).2∧Fr [b,m,p,q] w w':=by
 obtain ⟨cell,h1,h2,h3⟩:=h
 by_cases h0:x.line=0
 ·have e:x.step s=(x,s):=by unfold Lok.step Lok.live;rw [h0];rfl
  rw [e,show decide ((x,s).1.line=0)=true from decide_eq_true h0]
  have hln:lnD x=7:=by unfold lnD;rw [if_pos h0]
  have HS:=Lib.hid (And.intro (show DkIs w b o T pre post m n x from ⟨cell,h1,h2,h3⟩) hA)
  rw [hln] at h2
  obtain ⟨-,-,-,-,-,-,-,c7,-,-,-,-⟩:=dc_cells h2
  clear h0 h1 h3 hA e hln
  go_enter Tryd.func23,Tryd.ntmps23
  have c7':w.cell? ⟨b,o+7,none⟩=some (.int .i64 7):=c7
  clear c7
  go_wp2
  go_ret
  exact ⟨rfl,⟨n,Nat.le_succ n,HS.out.1⟩,HS.out.2,Fr.refl _ _⟩
 ·have hlv:x.live=true:=by unfold Lok.live;simp only [Bool.and_eq_true,decide_eq_true_eq];omega
  have hln:lnD x=x.line - 1:=by unfold lnD;rw [if_neg h0]
  rw [hln,h1 h0] at h2
  have e:x.step s=(x.next (x.told s),x.act s):=by unfold Lok.step;rw [if_pos hlv]
  rw [e]
  have HX:=Lib.hid (access_any x hlv ok ks b m n p q s hs w t ht hn hne h2 hA h3)
  obtain ⟨-,-,-,-,-,-,-,c7,-,-,-,-⟩:=dc_cells h2
  have c7':w.cell? ⟨b,o+7,none⟩=some (.int .i64 (x.line - 1)):=c7
  have b1:(x.line - 1 != 7)=true:=by simp;omega
  have HN:=Lib.hid (And.intro hne (next_line x (x.told s)))
  clear c7 h0 h1 hlv hln e hx h2 h3 hA hne hn ok ks hs ht t
  generalize x.next (x.told s)=z at *
  generalize x.act s=s' at *
  go_enter Tryd.func23,Tryd.ntmps23
  go_wp2_with fail
  refine HX.out.mono ?_;rintro e w1 ⟨y,⟨rfl,k1,k2,⟨k,k3,k4⟩,F1⟩,cell',a1,-,a3⟩
  have HP:=Lib.hid (And.intro a1 (And.intro a3 (And.intro k2 (And.intro k3 (And.intro k4 F1)))))
  clear HX a1 a3 k2 k3 k4 F1 c7'
  obtain ⟨-,-,-,-,-,-,-,c7,-,-,-,-⟩:=dc_cells k1
  have z7:=k1.frozen
  go_wp2
  go_ret
  obtain ⟨a1,a3,k2,k3,k4,F1⟩:=HP.out
  obtain ⟨⟨hbp,hbq,hbm,hmp,hmq⟩,hz⟩:=HN.out
  refine ⟨?_,⟨k,k3,cell',a1,?_,?_⟩,?_,?_⟩
  ·show Ending.returned (.bool (lnD z == 7))=_
   have:(lnD z == 7)=decide (z.line=0):=by
    unfold lnD
    by_cases e:z.line=0
    ·rw [if_pos e,decide_eq_true e];rfl
    ·rw [if_neg e,decide_eq_false e];simp;omega
   rw [this]
  ·rw [← a3 (lnD z)];exact k1.set (i:=7) (.int .i64 (lnD z)) (by show 7<12;decide)
  ·exact k4.kept (Fr.setCell (S:=[b]) (b:=b) (i:=o+7) _ (by simp)) (by simp;exact hbm.symm)
  ·exact Ar.setO k2 hbp hbq _
  ·exact F1.setCell' (b:=b) _ (by simp)
end
end Go.Proofs.YtjhefbenmhmbcaaDoor.Ek
namespace Go.Proofs.YtjhefbenmhmbcaaDoor.Dk
open Go.RowKit Go.Maps Go.Proofs.YtjhefbenmhmbcaaDoor.Ar Go.Proofs.YtjhefbenmhmbcaaDoor.Mx Go.Proofs.YtjhefbenmhmbcaaDoor.Vw Go.Proofs.YtjhefbenmhmbcaaDoor.Ch
def keyG (l:List It) (k:Int):Option It:=l.find? (fun y=>y.k == k)
theorem item_key (l:List It) (k:Int):(itemN l k=none∧keyG l k=none)∨∃ i y,itemN l k=some i∧l[i]? = some y∧keyG l k=some y∧y.k=k:=by
 unfold itemN keyG
 induction l with
 | nil=>exact .inl ⟨rfl,rfl⟩
 | cons z r ih =>
  rw [List.findIdx?_cons,List.find?_cons]
  by_cases h:(z.k == k)=true
  ·rw [if_pos h,h];exact .inr ⟨0,z,rfl,rfl,rfl,by simpa using h⟩
  ·have hf:(z.k == k)=false:=by simpa using h
   rw [hf]
   rcases ih with ⟨h1,h2⟩ | ⟨i,y,h1,h2,h3,h4⟩
   ·left;simp only [Bool.false_eq_true,if_false];rw [h1,h2];exact ⟨rfl,rfl⟩
   ·right;simp only [Bool.false_eq_true,if_false];rw [h1,h3];exact ⟨i+1,y,rfl,by simpa using h2,rfl,h4⟩
def dk (x:Lok) (cell ln:Int):Dc:=⟨x.most,x.chunk,x.lo,x.hi,x.c.c,x.count,cell,ln,x.s,x.k,x.g⟩
end Go.Proofs.YtjhefbenmhmbcaaDoor.Dk
