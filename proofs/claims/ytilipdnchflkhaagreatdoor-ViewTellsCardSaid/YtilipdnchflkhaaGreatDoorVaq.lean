/- Texts that this proof leans on, one behind the other: Wide, Look5, View3. -/
import Derived.Test.YtilipdnchflkhaaGreatDoorVag
import Derived.Test.YtilipdnchflkhaaGreatDoorVai
import Derived.Test.YtilipdnchflkhaaGreatDoorVam
import Derived.Test.YtilipdnchflkhaaGreatDoorVao
import Derived.Test.YtilipdnchflkhaaGreatDoorVap
set_option linter.unusedVariables false
set_option linter.unusedSimpArgs false
set_option maxRecDepth 100000
set_option maxHeartbeats 12800000
namespace Go.Proofs.YtilipdnchflkhaaGreatDoor.Wd
open Go.RowKit Go.Proofs.YtilipdnchflkhaaGreatDoor.Ar Go.Proofs.YtilipdnchflkhaaGreatDoor.Ref Go.Proofs.YtilipdnchflkhaaGreatDoor.Og Go.Proofs.YtilipdnchflkhaaGreatDoor.Mx
def wideB (t c wd v:Int) (rs:List (List O)) (ps ds:List Int) (k:Int):Bool:=decide (k<ps.length) || decide (10<rs.length) || decide (50<ds.length) || decide (8000<wd) || rs.any (fun r=>decide (60<r.length)) || decide (scode t c wd v rs ps≠0)
theorem wideB_false {t c wd v:Int} {rs:List (List O)} {ps ds:List Int} {k:Int} (h:wideB t c wd v rs ps ds k=false):(ps.length:Int)≤k∧rs.length≤10∧ds.length≤50∧wd≤8000∧(∀ r,r∈rs→r.length≤60)∧scode t c wd v rs ps=0:=by
 unfold wideB at h
 simp only [Bool.or_eq_false_iff,decide_eq_false_iff_not] at h
 obtain ⟨⟨⟨⟨⟨h1,h2⟩,h3⟩,h4⟩,h5⟩,h6⟩:=h
 exact ⟨by omega,by omega,by omega,by omega,fun r hr=>by have:=List.any_eq_false.1 h5 r hr;simpa using this,by omega⟩
def WdAt (w:World) (rs:List (List O)) (x:Value) (wr:World):Prop:=∃ n:Nat,n≤rs.length∧x = .int .i64 n∧wr=w∧∀ i,i<n→¬ 60<(nthR rs i).length
theorem wide_any (t c wd v:Int) (rs:List (List O)) (ps ds:List Int) (s:Value) (k:Int) (w:World) (h:Scr w s t c wd v rs ps ds) :
  Calls Tryz.prog 13 #[s,.int .i64 k] w fun e w'=>e = .returned (.bool (wideB t c wd v rs ps ds k))∧Fr [] w w':=by
 have H:=Lib.hid h
 obtain ⟨vo,vp,vd,rfl,hr,hp,hd⟩:=h
 obtain ⟨a,cap,x,rfl,hl,hc,hrow⟩:=hr
 obtain ⟨a2,cap2,rfl,hl2,-,-⟩:=hp
 obtain ⟨a3,cap3,rfl,hl3,-,-⟩:=hd
 have HC:=Lib.hid hc
 have HR:=Lib.hid hrow
 clear hc hrow
 unfold maxLen at hl hl2 hl3
 generalize hX:wideB t c wd v rs ps ds k=X
 have HX:=Lib.hid hX
 clear hX
 have F0:=(Fr.refl [] w).alloc (.cells #[.int .i64 t,.int .i64 c,.int .i64 wd,.int .i64 v,.slice a rs.length cap,.slice a2 ps.length cap2,.slice a3 ds.length cap3] 27)
 have hb:=Go.heap_alloc_new w (.cells #[.int .i64 t,.int .i64 c,.int .i64 wd,.int .i64 v,.slice a rs.length cap,.slice a2 ps.length cap2,.slice a3 ds.length cap3] 27)
 obtain ⟨c0,c1,c2,c3,c4,c5,c6⟩:=cells7 hb
 by_cases h1:k<ps.length
 ·have g:decide ((ps.length:Int)>k)=true:=by simpa using h1
  have e:X=true:=by rw [← HX.out];unfold wideB;simp [h1]
  clear h1
  go_enter Tryz.func13,Tryz.ntmps13
  go_wp2
  go_ret
  exact ⟨by rw [e];rfl,F0⟩
 have g1:decide ((ps.length:Int)>k)=false:=by simpa using h1
 by_cases h2:10<rs.length
 ·have g:decide ((rs.length:Int)>10)=true:=by simp;omega
  have e:X=true:=by rw [← HX.out];unfold wideB;simp [h2]
  clear h1 h2
  go_enter Tryz.func13,Tryz.ntmps13
  go_wp2
  go_ret
  exact ⟨by rw [e];rfl,F0⟩
 have g2:decide ((rs.length:Int)>10)=false:=by simp;omega
 by_cases h3:50<ds.length
 ·have g:decide ((ds.length:Int)>50)=true:=by simp;omega
  have e:X=true:=by rw [← HX.out];unfold wideB;simp [h3]
  clear h1 h2 h3
  go_enter Tryz.func13,Tryz.ntmps13
  go_wp2
  go_ret
  exact ⟨by rw [e];rfl,F0⟩
 have g3:decide ((ds.length:Int)>50)=false:=by simp;omega
 by_cases h4:8000<wd
 ·have g:decide (wd>8000)=true:=by simpa using h4
  have e:X=true:=by rw [← HX.out];unfold wideB;simp [h4]
  clear h1 h2 h3 h4
  go_enter Tryz.func13,Tryz.ntmps13
  go_wp2
  go_ret
  exact ⟨by rw [e];rfl,F0⟩
 have g4:decide (wd>8000)=false:=by simpa using h4
 have HXX:=Lib.hid (show X=(rs.any (fun r=>decide (60<r.length)) || decide (scode t c wd v rs ps≠0)) by rw [← HX.out];unfold wideB;simp [h1,h2,h3,h4])
 have hrl:rs.length≤10:=by omega
 have HB:=Lib.hid hb
 have HF0:=Lib.hid F0
 clear h1 h2 h3 h4 HX hb F0
 go_enter Tryz.func13,Tryz.ntmps13
 go_wp2_with fail
 generalize hw1:World.alloc w _=w1 at *
 generalize w.heap.size=bs at *
 go_loopw [5] (fun x wr=>WdAt w1 rs x wr) (fun x _=>rs.length - (intOf x).toNat)
 case atStart=>exact ⟨0,Nat.zero_le _,rfl,rfl,by omega⟩
 case round =>
  obtain ⟨n,hn,rfl,rfl,hi⟩:=hrel
  by_cases hlt:n<rs.length
  ·rcases HC.out with hz | ⟨b,off,rfl,hbb,hcell⟩
   ·omega
   have d0:=cell_up HF0.out (hcell n hlt)
   obtain ⟨ar,capr,hxe,hlr,-,-⟩:=HR.out n hlt
   rw [hxe] at d0
   have HI2:=Lib.hid (show n+1≤rs.length∧rs.length - (n+1)<rs.length - n by omega)
   have hltz:(n:Int)<(rs.length:Int):=by omega
   clear hcell hxe
   unfold maxLen at hlr
   by_cases hg:60<(nthR rs n).length
   ·have g5:decide (((nthR rs n).length:Int)>60)=true:=by simp;omega
    have e:X=true:=by rw [HXX.out];simp only [Bool.or_eq_true];exact .inl (List.any_eq_true.2 ⟨_,nthR_mem hlt,by simpa using hg⟩)
    clear hg hi
    go_wp2
    go_ret
    exact ⟨by rw [e];rfl,HF0.out⟩
   ·have g5:decide (((nthR rs n).length:Int)>60)=false:=by simp;omega
    have HG:=Lib.hid (And.intro hg hi)
    clear hg hi
    go_wp2_with fail
    go_roundw
    case rel =>
     refine ⟨n+1,HI2.out.1,by go_num,rfl,fun i hi'=>?_⟩
     by_cases hin:i=n
     ·rw [hin];exact HG.out.1
     ·exact HG.out.2 i (by omega)
    case measure=>exact meas rfl HI2.out.2
  ·obtain rfl:n=rs.length:=by omega
   have hany:rs.any (fun r=>decide (60<r.length))=false:=by
    rw [List.any_eq_false];intro y hy
    obtain ⟨i,hi',rfl⟩:=List.getElem_of_mem hy
    have:=hi i hi'
    unfold nthR at this
    rw [List.getD_eq_getElem?_getD,List.getElem?_eq_getElem hi'] at this
    simpa using this
   have HXY:=Lib.hid (show X=decide (scode t c wd v rs ps≠0) by rw [HXX.out,hany];rfl)
   clear hi hany
   go_wp2_with fail
   refine (Ro.isScript_any t c wd v rs ps ds _ wr (H.out.up HF0.out)).mono ?_;rintro e w2 ⟨rfl,F2⟩
   clear c0 c1 c2 c3 c4 c5 c6
   by_cases hs:scode t c wd v rs ps=0
   ·rw [hs]
    have HS:=Lib.hid hs
    clear hs
    go_wp2_with fail
    go_ret
    exact ⟨by rw [HXY.out,HS.out];rfl,HF0.out.trans F2⟩
   ·have g6:(scode t c wd v rs ps != 0)=true:=by simpa using hs
    have HS:=Lib.hid hs
    clear hs
    generalize scode t c wd v rs ps=sc at *
    go_wp2_with fail
    go_ret
    exact ⟨by rw [HXY.out];simp [HS.out],HF0.out.trans F2⟩
def pokeN (l:List Int) (s:St):Nat→St
 | 0=>s
 | n+1=>(pokeN l s n).poke n (nth l n)
theorem pokeN_len (l:List Int) (s:St):∀ n,(pokeN l s n).l.length=s.l.length
 | 0=>rfl
 | n+1=>by unfold pokeN St.poke;simp only [length_poke];exact pokeN_len l s n
theorem pokeN_rest (l:List Int) (s:St):∀ n,(pokeN l s n).n=s.n∧(pokeN l s n).a=s.a
 | 0=>⟨rfl,rfl⟩
 | n+1=>pokeN_rest l s n
theorem pokeN_nth (l:List Int) (s:St):∀ n,n≤s.l.length→∀ i,nth (pokeN l s n).l i=if i<n then nth l i else nth s.l i
 | 0,_,i=>by simp [pokeN]
 | n+1,h,i=>by
  unfold pokeN St.poke
  simp only
  rw [poke_at _ (by rw [pokeN_len];omega)]
  have ih:=pokeN_nth l s n (by omega) i
  unfold nth at ih ⊢
  rw [List.getD_eq_getElem?_getD]
  by_cases hi:i=n
  ·subst hi
   rw [List.getElem?_set_self (by rw [pokeN_len];omega),if_pos (by omega)];rfl
  ·rw [List.getElem?_set_ne (fun e=>hi e.symm),← List.getD_eq_getElem?_getD,ih]
   by_cases h2:i<n
   ·rw [if_pos h2,if_pos (by omega)]
   ·rw [if_neg h2,if_neg (by omega)]
def freshS (l:List Int):St:=⟨l,0,⟨0,0,0,0,false⟩⟩
theorem pokeN_all (l:List Int):pokeN l (St.fresh l.length) l.length=freshS l:=by
 have h1:=pokeN_len l (St.fresh l.length) l.length
 have h2:=pokeN_rest l (St.fresh l.length) l.length
 have h3:=pokeN_nth l (St.fresh l.length) l.length (by unfold St.fresh;simp)
 have hl:(St.fresh l.length).l.length=l.length:=by unfold St.fresh;simp
 have e:(pokeN l (St.fresh l.length) l.length).l=l:=by
  apply List.ext_getElem?
  intro i
  by_cases hi:i<l.length
  ·have:=h3 i
   rw [if_pos hi] at this
   unfold nth at this
   rw [List.getD_eq_getElem?_getD,List.getD_eq_getElem?_getD,List.getElem?_eq_getElem (by omega),List.getElem?_eq_getElem hi] at this
   rw [List.getElem?_eq_getElem (by omega),List.getElem?_eq_getElem hi]
   simpa using this
  ·rw [List.getElem?_eq_none (by omega),List.getElem?_eq_none (by omega)]
 generalize pokeN l (St.fresh l.length) l.length=u at *
 obtain ⟨ul,un,ua⟩:=u
 unfold St.fresh at h2
 simp only at e h2
 rw [e,h2.1,h2.2];rfl
def AnAt (w:World) (s:St) (p q:Nat) (u:Value) (wr:World):Prop:=∃ i,i≤s.l.length∧u = .int .i64 (i:Nat)∧Ar wr p q (pokeN s.l (St.fresh s.l.length) i)
theorem arena_any (p q:Nat) (s:St) (w:World) (h:Rar w p q s) :
  Calls Tryz.prog 16 #[.pointer (some ⟨p,0,none⟩)] w (Made w (freshS s.l)):=by
 obtain ⟨cap,hcap,r0,-,-,-,-,-,-,rq⟩:=rarCells h
 have hlen:1≤s.l.length∧s.l.length≤20000:=⟨h.lo,h.hi⟩
 go_enter Tryz.func16,Tryz.ntmps16
 go_wp2_with fail
 refine (Ar.new_at s.l.length s.l.length hlen.1 hlen.2 (by omega) w).mono ?_;rintro e w1 ⟨pa,qa,rfl,hpa,hqa,A,F⟩
 have HP:=Lib.hid (And.intro hpa hqa)
 have HH:=Lib.hid (h.kept F (by simp) (by simp))
 have HA:=Lib.hid A
 have HF:=Lib.hid F
 have hpl:=h.lt
 clear h A F hpa hqa r0 rq
 go_wp2_with fail
 go_loopw [4] (fun u wr=>AnAt w1 s pa qa u wr∧Rar wr p q s∧Fr [] w wr) (fun u _=>s.l.length - (intOf u).toNat)
 case atStart=>exact ⟨⟨0,Nat.zero_le _,rfl,HA.out⟩,HH.out,HF.out⟩
 case round =>
  obtain ⟨⟨i,hi,rfl,A⟩,R,G⟩:=hrel
  obtain ⟨cap2,hcap2,r0,-,-,-,-,-,-,rq⟩:=rarCells R
  by_cases hlt:i<s.l.length
  ·have d0:=rq i hlt
   have HI2:=Lib.hid (show i+1≤s.l.length∧s.l.length - (i+1)<s.l.length - i by omega)
   have hltz:(i:Int)<(s.l.length:Int):=by omega
   have HG:=Lib.hid (And.intro R G)
   clear rq R G hlt
   go_wp2_with fail
   refine (Ar.poke_any wr pa qa _ i (nth s.l i) A).mono ?_;rintro e w3 ⟨rfl,A3,F3⟩
   have h1:=HP.out
   have HA3:=Lib.hid (And.intro A3 (And.intro (HG.out.1.kept F3 (by simp;omega) (by simp;omega)) (HG.out.2.own F3 (by simp;omega))))
   clear A A3 F3 r0 d0
   go_wp2_with fail
   go_roundw
   case rel=>exact ⟨⟨i+1,HI2.out.1,by simp,HA3.out.1⟩,HA3.out.2.1,HA3.out.2.2⟩
   case measure=>exact meas rfl HI2.out.2
  ·obtain rfl:i=s.l.length:=by omega
   have HA2:=Lib.hid (And.intro A G)
   clear rq A G R
   go_wp2_with fail
   go_ret
   have hA:=HA2.out.1
   rw [pokeN_all] at hA
   exact ⟨pa,qa,rfl,HP.out.1,HP.out.2,hA,HA2.out.2⟩
theorem flatI_get {xs:List Int} {i:Nat} (h:i<xs.length):(xs.flatMap fI)[i]? = some (.int .i64 (nth xs i)):=by
 have e:=fI_lays.at (xs:=xs) (i:=i) (j:=0) (List.getElem?_eq_getElem h) (by decide)
 rw [Nat.mul_one,Nat.add_zero] at e
 rw [e]
 unfold nth
 rw [List.getD_eq_getElem?_getD,List.getElem?_eq_getElem h];rfl
theorem row_int {w:World} {B n c:Nat} {a:Option Addr} {xs:List Int} (h:w.ownsRow B 3 1 (.slice a n c) n (xs.flatMap fI)) (hn:n=xs.length) (h1:1≤n):∃ g cur,a=some ⟨g,0,none⟩∧B≤g∧g<w.heap.size∧w.heap[g]? = some (.cells cur 3 (0,0))∧cur.size=c∧n≤c∧c≤maxLen∧∀ i,i<n→cur[i]? = some (.int .i64 (nth xs i)):=by
 obtain ⟨e1,h2⟩:=h
 rcases h2 with ⟨e,-⟩ | ⟨g,cap,cur,e,hB,hh,hc1,hc2,hs,ht⟩
 ·simp only [Value.slice.injEq] at e;omega
 ·simp only [Value.slice.injEq] at e
  obtain ⟨rfl,-,rfl⟩:=e
  refine ⟨g,cur,rfl,hB,(Array.getElem?_eq_some_iff.1 hh).1,hh,by simpa using hs,hc1,hc2,fun i hi=>?_⟩
  have e2:=flatI_get (xs:=xs) (i:=i) (by omega)
  rw [← ht,List.getElem?_take_of_lt (by omega)] at e2
  simpa using e2
theorem fresh_any (p q:Nat) (s:St) (w:World) (h:Rar w p q s) :
  Calls Tryz.prog 14 #[.pointer (some ⟨p,0,none⟩)] w (RMade w (freshS s.l)):=by
 obtain ⟨cap,hcap,r0,-,-,-,-,-,-,rq⟩:=rarCells h
 have hcm:cap≤maxLen:=by
  obtain ⟨cap',c',hp,-,hm,-⟩:=h.mem
  have:w.cell? ⟨p,0,none⟩=some (.slice (some ⟨q,0,none⟩) s.l.length cap'):=by rw [cell_of_row _ _ _ _ _ _ hp];rfl
  rw [r0] at this
  simp only [Option.some.injEq,Value.slice.injEq,true_and] at this
  omega
 have hS:Sq fI w (.slice (some ⟨q,0,none⟩) s.l.length cap) s.l:=⟨_,cap,rfl,hcap,hcm,.inr ⟨q,0,rfl,h.lt.2,fun j u hu=>by
  have hj:=(List.getElem?_eq_some_iff.1 hu).1
  rw [fI_lays.flat,Nat.mul_one] at hj
  rw [flatI_get hj] at hu
  rw [Nat.zero_add,rq j hj,← hu]⟩⟩
 have hlen:1≤s.l.length∧s.l.length≤20000:=⟨h.lo,h.hi⟩
 clear rq h
 go_enter Tryz.func14,Tryz.ntmps14
 go_wp2_with (at_builtin;refine wpList_appSqB fI_lays rfl _ _ 25 rfl Tryz.underlying25 intInfo rfl (B:=w.heap.size) (.slice none 0 0) [] rfl ⟨rfl,.inl ⟨rfl,rfl⟩⟩ _ s.l rfl hS (by simp;omega) (by decide) (Nat.le_refl _) ?_;intro a1 c1 w1 r1 f1 n1;rw [List.nil_append] at r1;have HR:=Lib.hid (And.intro r1 (f1.mono (T:=[]) (by simp [Value.ownBlock])));clear r1 f1 n1)
 go_ret
 obtain ⟨r1,f1⟩:=HR.out
 obtain ⟨g,cur,rfl,hB,hg,hh,hs,hc1,hc2,hall⟩:=row_int r1 rfl hlen.1
 have FA:=f1.alloc (.cells (rarHead (freshS s.l) g c1) 47)
 refine ⟨w1.heap.size,g,rfl,f1.size,hB,⟨by omega,hlen.1,hlen.2,c1,cur,Go.heap_alloc_new w1 _,hc1,hc2,?_,hs,hall⟩,FA⟩
 rw [heap_alloc_old _ _ hg];exact hh
end Go.Proofs.YtilipdnchflkhaaGreatDoor.Wd
namespace Go.Proofs.YtilipdnchflkhaaGreatDoor.Mx
open Go.RowKit Go.Proofs.YtilipdnchflkhaaGreatDoor.Ar Go.Proofs.YtilipdnchflkhaaGreatDoor.Ref
def Lok.sa (x:Lok):Int:=stAt x.chunk x.i
def Lok.live (x:Lok):Bool:=decide (1≤x.line) && decide (x.line≤7)
def Lok.act (x:Lok) (s:St):St :=
 if x.line=1 then s.load (wrap64 (x.chunk+1)) else if x.line=2 then s.load x.sa else if x.line=3 then s.load (wrap64 (x.sa+1)) else if x.line=4 then s.load 1
 else if x.line=5 then s.swap x.sa 1 (stateW x.g) else if x.line=6 then s.load x.sa else s.load (wrap64 (x.sa+2))
def Lok.told (x:Lok) (s:St):Int :=
 if x.line=1 then peek s.l (wrap64 (x.chunk+1)) else if x.line=2 then peek s.l x.sa else if x.line=3 then peek s.l (wrap64 (x.sa+1)) else if x.line=4 then peek s.l 1
 else if x.line=6 then peek s.l x.sa else peek s.l (wrap64 (x.sa+2))
def Lok.next (x:Lok) (v:Int):Lok :=
 if x.line=1 then ({ x with count:=max 0 (min v x.c.c),i:=-1 }:Lok).on
 else if x.line=2 then (if v≤0∨v=2 then ({ x with s:=v,line:=3 }:Lok).on else { x with s:=v,line:=3 })
 else if x.line=3 then (if v<x.lo∨x.hi<v then ({ x with k:=v }:Lok).on else if x.s=1 then { x with k:=v,line:=4 } else ({ x with k:=v }:Lok).seven)
 else if x.line=4 then { x with g:=v,line:=5 } else if x.line=5 then { x with line:=6 }
 else if x.line=6 then (if v<3 then ({ x with s:=v }:Lok).on else ({ x with s:=v }:Lok).seven)
 else ({ x with l:=putK x.l ⟨x.k,verW x.s,v⟩ }:Lok).on
def Lok.step (x:Lok) (s:St):Lok×St:=if x.live=true then (x.next (x.told s),x.act s) else (x,s)
def LokPost (w:World) (x:Lok) (b p q:Nat) (y:Lok) (t:St) (e:Ending) (w':World):Prop:=e = .returned (.bool (decide (y.line=0)))∧(∃ lv',LokAt w' b { y with lv:=lv' } ∧ Sq fT w' lv' y.l∧(lv'=x.lv∨y.l≠[]∧∀ g,g∈lv'.ownBlock.toList→w.heap.size≤g))∧Rar w' p q t∧Fr [b,p,q] w w'
theorem putK_ne (l:List It) (x:It):putK l x≠[]:=by
 unfold putK
 split
 ·rename_i i h
  have:=itemN_lt h
  intro e
  have h2:=congrArg List.length e
  simp at h2
  rw [h2] at this
  simp at this
 ·cases l with
  | nil=>simp [insK]
  | cons y r=>unfold insK;split <;> simp
theorem lok_on_lv (x:Lok):x.on.lv=x.lv:=by unfold Lok.on;split <;> rfl
theorem lok_on_l (x:Lok):x.on.l=x.l:=by unfold Lok.on;split <;> rfl
theorem lok_seven_lv (x:Lok):x.seven.lv=x.lv:=by unfold Lok.seven;split <;> first | rw [lok_on_lv] | rfl
theorem lok_seven_l (x:Lok):x.seven.l=x.l:=by unfold Lok.seven;split <;> first | rw [lok_on_l] | rfl
theorem sqT {b p q:Nat} {w w':World} {v:Value} {l:List It} (h:Sq fT w v l) (D:Fr [b,p,q] w w') (hb:b∉v.ownBlock.toList) (hp:p∉v.ownBlock.toList) (hq:q∉v.ownBlock.toList):Sq fT w' v l :=
 h.kept D (fun g hg hi=>by simp at hi;rcases hi with rfl | rfl | rfl <;> contradiction)
theorem look_step4 (x:Lok) (hl:x.line=4) (hc:x.c.Ok) (hi:-1≤x.i∧x.i≤100) (hlen:x.l.length≤900) (b p q:Nat) (s:St) (w:World) (h:LokAt w b x) (hA:Rar w p q s) (hp:b≠p) (hq:b≠q) (hs:Sq fT w x.lv x.l) (hb:b∉x.lv.ownBlock.toList) (hp2:p∉x.lv.ownBlock.toList) (hq2:q∉x.lv.ownBlock.toList) :
  Calls Tryz.prog 21 #[.pointer (some ⟨b,0,none⟩),.pointer (some ⟨p,0,none⟩)] w (LokPost w x b p q (x.next (peek s.l 1)) (s.load 1)):=by
 generalize hy:x.next (peek s.l 1)=y
 have HY:=Lib.hid hy
 clear hy
 obtain ⟨c0,c1,c2,c3,c4,c5,c6,c7,c8,c9,c10,c11,c12,c13,c14⟩:=lok_cells h
 have z:=h.frozen
 go_enter Tryz.func21,Tryz.ntmps21
 go_wp2_with fail
 have k4:=In.cell c4
 have k9:=In.cell c9
 clear c0 c1 c2 c3 c4 c5 c6 c7 c8 c9 c10 c11 c12 c13 c14 z
 refine wi ?_
 repeat (go_big_quiet_step ((go_at_call 29;exact Calls.in_same (stAt_any _ _ _))))
 refine wpQuiet_nil ?_
 intro w0 F0
 rw [show stAt x.chunk x.i=x.sa from rfl]
 have h0:LokAt w0 b x:=Ob.up h F0
 have A0:=hA.kept F0
 have D0:Fr [b,p,q] w w0:=F0.mono
 clear k4 k9 h hA F0
 obtain ⟨c0,c1,c2,c3,c4,c5,c6,c7,c8,c9,c10,c11,c12,c13,c14⟩:=lok_cells h0
 have z:=h0.frozen
 go_wp2_with fail
 have A1:=A0
 have h1:=h0
 have D1:=D0
 clear c0 c1 c2 c3 c4 c5 c6 c7 c8 c9 c10 c11 c12 c13 c14 z
 refine (Ref.load_any _ p q s 1 A1).mono ?_;rintro e w5 ⟨rfl,A5,F5⟩
 have h5:=Ob.kept h1 F5 (by simp;exact ⟨hp,hq⟩)
 have D5:=frSub D1 F5 (by simp)
 clear A1 h1 D1 F5 A0 h0 D0
 obtain ⟨c0,c1,c2,c3,c4,c5,c6,c7,c8,c9,c10,c11,c12,c13,c14⟩:=lok_cells h5
 have z:=h5.frozen
 have hn:y = { x with g:=peek s.l 1,line:=5 }:=by rw [← HY.out];unfold Lok.next;simp [hl]
 subst hn
 go_wp2_with fail
 go_ret
 exact ⟨rfl,⟨x.lv,(Ob.set (Ob.set h5 (i:=13) (.int .i64 (peek s.l 1))) (i:=8) (.int .i64 5)),sqT hs ((Fr.setCell' (Fr.setCell' D5 (b:=b) (i:=13) (.int .i64 (peek s.l 1)) (by simp)) (b:=b) (i:=8) (.int .i64 5) (by simp))) hb hp2 hq2,.inl rfl⟩,(Rar.set (Rar.set A5 hp hq (i:=13) (.int .i64 (peek s.l 1))) hp hq (i:=8) (.int .i64 5)),(Fr.setCell' (Fr.setCell' D5 (b:=b) (i:=13) (.int .i64 (peek s.l 1)) (by simp)) (b:=b) (i:=8) (.int .i64 5) (by simp))⟩
theorem look_step2 (x:Lok) (hl:x.line=2) (hc:x.c.Ok) (hi:-1≤x.i∧x.i≤100) (hlen:x.l.length≤900) (b p q:Nat) (s:St) (w:World) (h:LokAt w b x) (hA:Rar w p q s) (hp:b≠p) (hq:b≠q) (hs:Sq fT w x.lv x.l) (hb:b∉x.lv.ownBlock.toList) (hp2:p∉x.lv.ownBlock.toList) (hq2:q∉x.lv.ownBlock.toList) :
  Calls Tryz.prog 21 #[.pointer (some ⟨b,0,none⟩),.pointer (some ⟨p,0,none⟩)] w (LokPost w x b p q (x.next (peek s.l x.sa)) (s.load x.sa)):=by
 generalize hy:x.next (peek s.l x.sa)=y
 have HY:=Lib.hid hy
 clear hy
 obtain ⟨c0,c1,c2,c3,c4,c5,c6,c7,c8,c9,c10,c11,c12,c13,c14⟩:=lok_cells h
 have z:=h.frozen
 go_enter Tryz.func21,Tryz.ntmps21
 go_wp2_with fail
 have k4:=In.cell c4
 have k9:=In.cell c9
 clear c0 c1 c2 c3 c4 c5 c6 c7 c8 c9 c10 c11 c12 c13 c14 z
 refine wi ?_
 repeat (go_big_quiet_step ((go_at_call 29;exact Calls.in_same (stAt_any _ _ _))))
 refine wpQuiet_nil ?_
 intro w0 F0
 rw [show stAt x.chunk x.i=x.sa from rfl]
 have h0:LokAt w0 b x:=Ob.up h F0
 have A0:=hA.kept F0
 have D0:Fr [b,p,q] w w0:=F0.mono
 clear k4 k9 h hA F0
 obtain ⟨c0,c1,c2,c3,c4,c5,c6,c7,c8,c9,c10,c11,c12,c13,c14⟩:=lok_cells h0
 have z:=h0.frozen
 go_wp2_with fail
 have A1:=A0
 have h1:=h0
 have D1:=D0
 clear c0 c1 c2 c3 c4 c5 c6 c7 c8 c9 c10 c11 c12 c13 c14 z
 refine (Ref.load_any _ p q s _ A1).mono ?_;rintro e w5 ⟨rfl,A5,F5⟩
 have h5:=Ob.kept h1 F5 (by simp;exact ⟨hp,hq⟩)
 have D5:=frSub D1 F5 (by simp)
 clear A1 h1 D1 F5 A0 h0 D0
 obtain ⟨c0,c1,c2,c3,c4,c5,c6,c7,c8,c9,c10,c11,c12,c13,c14⟩:=lok_cells h5
 have z:=h5.frozen
 generalize hv:peek s.l x.sa=v at *
 by_cases e1:v≤0
 ·have g1:decide (v≤0)=true:=by simpa using e1
  have hn:y=Lok.on ({ x with s:=v,line:=3 }:Lok):=by rw [← HY.out];unfold Lok.next;simp [hl,e1]
  subst hn
  go_wp2_with fail
  have h6:LokAt ((w5.setCell ⟨b,11,none⟩ (.int .i64 v)).setCell ⟨b,8,none⟩ (.int .i64 3)) b { x with s:=v,line:=3 }:=(Ob.set (Ob.set h5 (i:=11) (.int .i64 v)) (i:=8) (.int .i64 3))
  have A6:=(Rar.set (Rar.set A5 hp hq (i:=11) (.int .i64 v)) hp hq (i:=8) (.int .i64 3))
  have D6:=(Fr.setCell' (Fr.setCell' D5 (b:=b) (i:=11) (.int .i64 v) (by simp)) (b:=b) (i:=8) (.int .i64 3) (by simp))
  generalize ((w5.setCell ⟨b,11,none⟩ (.int .i64 v)).setCell ⟨b,8,none⟩ (.int .i64 3))=w6 at *
  clear h5 A5 D5
  clear c0 c1 c2 c3 c4 c5 c6 c7 c8 c9 c10 c11 c12 c13 c14 z
  refine (look_on ({ x with s:=v,line:=3 }:Lok) hi b _ h6).mono ?_;rintro e w7 ⟨rfl,h7,F7⟩
  have A7:=A6.kept F7 (by simp;exact hp.symm) (by simp;exact hq.symm)
  have D7:=frSub D6 F7 (by simp)
  clear h6 A6 F7 D6
  obtain ⟨-,-,-,-,-,-,-,-,c8,-,-,-,-,-,-⟩:=lok_cells h7
  go_wp2_with fail
  go_ret
  exact ⟨rfl,⟨(Lok.on ({ x with s:=v,line:=3 }:Lok)).lv,h7,by rw [lok_on_lv,lok_on_l];exact sqT hs D7 hb hp2 hq2,.inl (lok_on_lv _)⟩,A7,D7⟩
 ·have g1:decide (v≤0)=false:=by simpa using e1
  by_cases e2:v=2
  ·have g2:(v == 2)=true:=by simpa using e2
   have hn:y=Lok.on ({ x with s:=v,line:=3 }:Lok):=by rw [← HY.out];unfold Lok.next;simp [hl,e2]
   subst hn
   have HE:=Lib.hid e2
   clear e2
   go_wp2_with fail
   have h6:LokAt ((w5.setCell ⟨b,11,none⟩ (.int .i64 v)).setCell ⟨b,8,none⟩ (.int .i64 3)) b { x with s:=v,line:=3 }:=(Ob.set (Ob.set h5 (i:=11) (.int .i64 v)) (i:=8) (.int .i64 3))
   have A6:=(Rar.set (Rar.set A5 hp hq (i:=11) (.int .i64 v)) hp hq (i:=8) (.int .i64 3))
   have D6:=(Fr.setCell' (Fr.setCell' D5 (b:=b) (i:=11) (.int .i64 v) (by simp)) (b:=b) (i:=8) (.int .i64 3) (by simp))
   generalize ((w5.setCell ⟨b,11,none⟩ (.int .i64 v)).setCell ⟨b,8,none⟩ (.int .i64 3))=w6 at *
   clear h5 A5 D5
   clear c0 c1 c2 c3 c4 c5 c6 c7 c8 c9 c10 c11 c12 c13 c14 z
   refine (look_on ({ x with s:=v,line:=3 }:Lok) hi b _ h6).mono ?_;rintro e w7 ⟨rfl,h7,F7⟩
   have A7:=A6.kept F7 (by simp;exact hp.symm) (by simp;exact hq.symm)
   have D7:=frSub D6 F7 (by simp)
   clear h6 A6 F7 D6
   obtain ⟨-,-,-,-,-,-,-,-,c8,-,-,-,-,-,-⟩:=lok_cells h7
   go_wp2_with fail
   go_ret
   exact ⟨rfl,⟨(Lok.on ({ x with s:=v,line:=3 }:Lok)).lv,h7,by rw [lok_on_lv,lok_on_l];exact sqT hs D7 hb hp2 hq2,.inl (lok_on_lv _)⟩,A7,D7⟩
  have g2:(v == 2)=false:=by simpa using e2
  have hn:y = { x with s:=v,line:=3 }:=by rw [← HY.out];unfold Lok.next;simp [hl,e1,e2]
  subst hn
  go_wp2_with fail
  go_ret
  exact ⟨rfl,⟨x.lv,(Ob.set (Ob.set h5 (i:=11) (.int .i64 v)) (i:=8) (.int .i64 3)),sqT hs ((Fr.setCell' (Fr.setCell' D5 (b:=b) (i:=11) (.int .i64 v) (by simp)) (b:=b) (i:=8) (.int .i64 3) (by simp))) hb hp2 hq2,.inl rfl⟩,(Rar.set (Rar.set A5 hp hq (i:=11) (.int .i64 v)) hp hq (i:=8) (.int .i64 3)),(Fr.setCell' (Fr.setCell' D5 (b:=b) (i:=11) (.int .i64 v) (by simp)) (b:=b) (i:=8) (.int .i64 3) (by simp))⟩
theorem look_step5 (x:Lok) (hl:x.line=5) (hc:x.c.Ok) (hi:-1≤x.i∧x.i≤100) (hlen:x.l.length≤900) (b p q:Nat) (s:St) (w:World) (h:LokAt w b x) (hA:Rar w p q s) (hp:b≠p) (hq:b≠q) (hs:Sq fT w x.lv x.l) (hb:b∉x.lv.ownBlock.toList) (hp2:p∉x.lv.ownBlock.toList) (hq2:q∉x.lv.ownBlock.toList) :
  Calls Tryz.prog 21 #[.pointer (some ⟨b,0,none⟩),.pointer (some ⟨p,0,none⟩)] w (LokPost w x b p q (x.next (x.told s)) (s.swap x.sa 1 (stateW x.g))):=by
 generalize hy:x.next (x.told s)=y
 have HY:=Lib.hid hy
 clear hy
 obtain ⟨c0,c1,c2,c3,c4,c5,c6,c7,c8,c9,c10,c11,c12,c13,c14⟩:=lok_cells h
 have z:=h.frozen
 go_enter Tryz.func21,Tryz.ntmps21
 go_wp2_with fail
 have k4:=In.cell c4
 have k9:=In.cell c9
 clear c0 c1 c2 c3 c4 c5 c6 c7 c8 c9 c10 c11 c12 c13 c14 z
 refine wi ?_
 repeat (go_big_quiet_step ((go_at_call 29;exact Calls.in_same (stAt_any _ _ _))))
 refine wpQuiet_nil ?_
 intro w0 F0
 rw [show stAt x.chunk x.i=x.sa from rfl]
 have h0:LokAt w0 b x:=Ob.up h F0
 have A0:=hA.kept F0
 have D0:Fr [b,p,q] w w0:=F0.mono
 clear k4 k9 h hA F0
 obtain ⟨c0,c1,c2,c3,c4,c5,c6,c7,c8,c9,c10,c11,c12,c13,c14⟩:=lok_cells h0
 have z:=h0.frozen
 go_wp2_with fail
 refine (state_any _ _).mono ?_;rintro e _ ⟨rfl,rfl⟩
 go_wp2_with fail
 have A1:=A0
 have h1:=h0
 have D1:=D0
 clear c0 c1 c2 c3 c4 c5 c6 c7 c8 c9 c10 c11 c12 c13 c14 z
 refine (Ref.swap_any _ p q s _ 1 _ A1).mono ?_;rintro e w5 ⟨rfl,A5,F5⟩
 have h5:=Ob.kept h1 F5 (by simp;exact ⟨hp,hq⟩)
 have D5:=frSub D1 F5 (by simp)
 clear A1 h1 D1 F5 A0 h0 D0
 obtain ⟨c0,c1,c2,c3,c4,c5,c6,c7,c8,c9,c10,c11,c12,c13,c14⟩:=lok_cells h5
 have z:=h5.frozen
 have hn:y = { x with line:=6 }:=by rw [← HY.out];unfold Lok.next;simp [hl]
 subst hn
 go_wp2_with fail
 go_ret
 exact ⟨rfl,⟨x.lv,(Ob.set h5 (i:=8) (.int .i64 6)),sqT hs ((Fr.setCell' D5 (b:=b) (i:=8) (.int .i64 6) (by simp))) hb hp2 hq2,.inl rfl⟩,(Rar.set A5 hp hq (i:=8) (.int .i64 6)),(Fr.setCell' D5 (b:=b) (i:=8) (.int .i64 6) (by simp))⟩
theorem look_step6 (x:Lok) (hl:x.line=6) (hc:x.c.Ok) (hi:-1≤x.i∧x.i≤100) (hlen:x.l.length≤900) (b p q:Nat) (s:St) (w:World) (h:LokAt w b x) (hA:Rar w p q s) (hp:b≠p) (hq:b≠q) (hs:Sq fT w x.lv x.l) (hb:b∉x.lv.ownBlock.toList) (hp2:p∉x.lv.ownBlock.toList) (hq2:q∉x.lv.ownBlock.toList) :
  Calls Tryz.prog 21 #[.pointer (some ⟨b,0,none⟩),.pointer (some ⟨p,0,none⟩)] w (LokPost w x b p q (x.next (peek s.l x.sa)) (s.load x.sa)):=by
 generalize hy:x.next (peek s.l x.sa)=y
 have HY:=Lib.hid hy
 clear hy
 obtain ⟨c0,c1,c2,c3,c4,c5,c6,c7,c8,c9,c10,c11,c12,c13,c14⟩:=lok_cells h
 have z:=h.frozen
 go_enter Tryz.func21,Tryz.ntmps21
 go_wp2_with fail
 have k4:=In.cell c4
 have k9:=In.cell c9
 clear c0 c1 c2 c3 c4 c5 c6 c7 c8 c9 c10 c11 c12 c13 c14 z
 refine wi ?_
 repeat (go_big_quiet_step ((go_at_call 29;exact Calls.in_same (stAt_any _ _ _))))
 refine wpQuiet_nil ?_
 intro w0 F0
 rw [show stAt x.chunk x.i=x.sa from rfl]
 have h0:LokAt w0 b x:=Ob.up h F0
 have A0:=hA.kept F0
 have D0:Fr [b,p,q] w w0:=F0.mono
 clear k4 k9 h hA F0
 obtain ⟨c0,c1,c2,c3,c4,c5,c6,c7,c8,c9,c10,c11,c12,c13,c14⟩:=lok_cells h0
 have z:=h0.frozen
 go_wp2_with fail
 have A1:=A0
 have h1:=h0
 have D1:=D0
 clear c0 c1 c2 c3 c4 c5 c6 c7 c8 c9 c10 c11 c12 c13 c14 z
 refine (Ref.load_any _ p q s _ A1).mono ?_;rintro e w5 ⟨rfl,A5,F5⟩
 have h5:=Ob.kept h1 F5 (by simp;exact ⟨hp,hq⟩)
 have D5:=frSub D1 F5 (by simp)
 clear A1 h1 D1 F5 A0 h0 D0
 obtain ⟨c0,c1,c2,c3,c4,c5,c6,c7,c8,c9,c10,c11,c12,c13,c14⟩:=lok_cells h5
 have z:=h5.frozen
 generalize hv:peek s.l x.sa=v at *
 by_cases e1:v<3
 ·have g1:decide (v<3)=true:=by simpa using e1
  have hn:y=Lok.on ({ x with s:=v }:Lok):=by rw [← HY.out];unfold Lok.next;simp [hl,e1]
  subst hn
  go_wp2_with fail
  have h6:LokAt (w5.setCell ⟨b,11,none⟩ (.int .i64 v)) b { x with s:=v }:=(Ob.set h5 (i:=11) (.int .i64 v))
  have A6:=(Rar.set A5 hp hq (i:=11) (.int .i64 v))
  have D6:=(Fr.setCell' D5 (b:=b) (i:=11) (.int .i64 v) (by simp))
  generalize (w5.setCell ⟨b,11,none⟩ (.int .i64 v))=w6 at *
  clear h5 A5 D5
  clear c0 c1 c2 c3 c4 c5 c6 c7 c8 c9 c10 c11 c12 c13 c14 z
  refine (look_on ({ x with s:=v }:Lok) hi b _ h6).mono ?_;rintro e w7 ⟨rfl,h7,F7⟩
  have A7:=A6.kept F7 (by simp;exact hp.symm) (by simp;exact hq.symm)
  have D7:=frSub D6 F7 (by simp)
  clear h6 A6 F7 D6
  obtain ⟨-,-,-,-,-,-,-,-,c8,-,-,-,-,-,-⟩:=lok_cells h7
  go_wp2_with fail
  go_ret
  exact ⟨rfl,⟨(Lok.on ({ x with s:=v }:Lok)).lv,h7,by rw [lok_on_lv,lok_on_l];exact sqT hs D7 hb hp2 hq2,.inl (lok_on_lv _)⟩,A7,D7⟩
 ·have g1:decide (v<3)=false:=by simpa using e1
  have hn:y=Lok.seven ({ x with s:=v }:Lok):=by rw [← HY.out];unfold Lok.next;simp [hl,e1]
  subst hn
  go_wp2_with fail
  have h6:LokAt (w5.setCell ⟨b,11,none⟩ (.int .i64 v)) b { x with s:=v }:=(Ob.set h5 (i:=11) (.int .i64 v))
  have A6:=(Rar.set A5 hp hq (i:=11) (.int .i64 v))
  have D6:=(Fr.setCell' D5 (b:=b) (i:=11) (.int .i64 v) (by simp))
  generalize (w5.setCell ⟨b,11,none⟩ (.int .i64 v))=w6 at *
  clear h5 A5 D5
  clear c0 c1 c2 c3 c4 c5 c6 c7 c8 c9 c10 c11 c12 c13 c14 z
  refine (look_seven ({ x with s:=v }:Lok) hi b _ (by omega:x.l.length≤1000) h6 (sqT hs D6 hb hp2 hq2) hb).mono ?_;rintro e w7 ⟨rfl,h7,F7⟩
  have A7:=A6.kept F7 (by simp;exact hp.symm) (by simp;exact hq.symm)
  have D7:=frSub D6 F7 (by simp)
  clear h6 A6 F7 D6
  obtain ⟨-,-,-,-,-,-,-,-,c8,-,-,-,-,-,-⟩:=lok_cells h7
  go_wp2_with fail
  go_ret
  exact ⟨rfl,⟨(Lok.seven ({ x with s:=v }:Lok)).lv,h7,by rw [lok_seven_lv,lok_seven_l];exact sqT hs D7 hb hp2 hq2,.inl (lok_seven_lv _)⟩,A7,D7⟩
theorem look_step3 (x:Lok) (hl:x.line=3) (hc:x.c.Ok) (hi:-1≤x.i∧x.i≤100) (hlen:x.l.length≤900) (b p q:Nat) (s:St) (w:World) (h:LokAt w b x) (hA:Rar w p q s) (hp:b≠p) (hq:b≠q) (hs:Sq fT w x.lv x.l) (hb:b∉x.lv.ownBlock.toList) (hp2:p∉x.lv.ownBlock.toList) (hq2:q∉x.lv.ownBlock.toList) :
  Calls Tryz.prog 21 #[.pointer (some ⟨b,0,none⟩),.pointer (some ⟨p,0,none⟩)] w (LokPost w x b p q (x.next (peek s.l (wrap64 (x.sa+1)))) (s.load (wrap64 (x.sa+1)))):=by
 generalize hy:x.next (peek s.l (wrap64 (x.sa+1)))=y
 have HY:=Lib.hid hy
 clear hy
 obtain ⟨c0,c1,c2,c3,c4,c5,c6,c7,c8,c9,c10,c11,c12,c13,c14⟩:=lok_cells h
 have z:=h.frozen
 go_enter Tryz.func21,Tryz.ntmps21
 go_wp2_with fail
 have k4:=In.cell c4
 have k9:=In.cell c9
 clear c0 c1 c2 c3 c4 c5 c6 c7 c8 c9 c10 c11 c12 c13 c14 z
 refine wi ?_
 repeat (go_big_quiet_step ((go_at_call 29;exact Calls.in_same (stAt_any _ _ _))))
 refine wpQuiet_nil ?_
 intro w0 F0
 rw [show stAt x.chunk x.i=x.sa from rfl]
 have h0:LokAt w0 b x:=Ob.up h F0
 have A0:=hA.kept F0
 have D0:Fr [b,p,q] w w0:=F0.mono
 clear k4 k9 h hA F0
 obtain ⟨c0,c1,c2,c3,c4,c5,c6,c7,c8,c9,c10,c11,c12,c13,c14⟩:=lok_cells h0
 have z:=h0.frozen
 go_wp2_with fail
 have A1:=A0
 have h1:=h0
 have D1:=D0
 clear c0 c1 c2 c3 c4 c5 c6 c7 c8 c9 c10 c11 c12 c13 c14 z
 refine (Ref.load_any _ p q s _ A1).mono ?_;rintro e w5 ⟨rfl,A5,F5⟩
 have h5:=Ob.kept h1 F5 (by simp;exact ⟨hp,hq⟩)
 have D5:=frSub D1 F5 (by simp)
 clear A1 h1 D1 F5 A0 h0 D0
 obtain ⟨c0,c1,c2,c3,c4,c5,c6,c7,c8,c9,c10,c11,c12,c13,c14⟩:=lok_cells h5
 have z:=h5.frozen
 generalize hv:peek s.l (wrap64 (x.sa+1))=v at *
 go_wp2_with fail
 have h6:LokAt (w5.setCell ⟨b,12,none⟩ (.int .i64 v)) b { x with k:=v }:=(Ob.set h5 (i:=12) (.int .i64 v))
 have A6:=(Rar.set A5 hp hq (i:=12) (.int .i64 v))
 have D6:=(Fr.setCell' D5 (b:=b) (i:=12) (.int .i64 v) (by simp))
 generalize (w5.setCell ⟨b,12,none⟩ (.int .i64 v))=w6 at *
 clear h5 A5 D5
 clear c0 c1 c2 c3 c4 c5 c6 c7 c8 c9 c10 c11 c12 c13 c14 z
 by_cases e1:v<x.lo
 ·have g1:decide (v<x.lo)=true:=by simpa using e1
  have hn:y=Lok.on ({ x with k:=v }:Lok):=by rw [← HY.out];unfold Lok.next;simp [hl,e1]
  subst hn
  obtain ⟨-,-,-,-,-,c5,c6,-,-,-,-,-,c12,-,-⟩:=lok_cells h6
  have k5:=In.cell c5
  have k6:=In.cell c6
  have k12:=In.cell c12
  clear c5 c6 c12
  refine wi ?_
  repeat (go_big_quiet_step (fail))
  refine wpQuiet_nil ?_
  intro w8 F8
  replace h6:=Ob.up h6 F8
  replace A6:=A6.kept F8
  replace D6:=D6.then F8
  clear k5 k6 k12 F8
  go_wp2_with fail
  refine (look_on ({ x with k:=v }:Lok) hi b _ h6).mono ?_;rintro e w7 ⟨rfl,h7,F7⟩
  have A7:=A6.kept F7 (by simp;exact hp.symm) (by simp;exact hq.symm)
  have D7:=frSub D6 F7 (by simp)
  clear h6 A6 F7 D6
  obtain ⟨-,-,-,-,-,-,-,-,c8,-,-,-,-,-,-⟩:=lok_cells h7
  go_wp2_with fail
  go_ret
  exact ⟨rfl,⟨(Lok.on ({ x with k:=v }:Lok)).lv,h7,by rw [lok_on_lv,lok_on_l];exact sqT hs D7 hb hp2 hq2,.inl (lok_on_lv _)⟩,A7,D7⟩
 ·have g1:decide (v<x.lo)=false:=by simpa using e1
  by_cases e2:x.hi<v
  ·have g2:decide (v>x.hi)=true:=by simpa using e2
   have hn:y=Lok.on ({ x with k:=v }:Lok):=by rw [← HY.out];unfold Lok.next;simp [hl,e2]
   subst hn
   obtain ⟨-,-,-,-,-,c5,c6,-,-,-,-,-,c12,-,-⟩:=lok_cells h6
   have k5:=In.cell c5
   have k6:=In.cell c6
   have k12:=In.cell c12
   clear c5 c6 c12
   refine wi ?_
   repeat (go_big_quiet_step (fail))
   refine wpQuiet_nil ?_
   intro w8 F8
   replace h6:=Ob.up h6 F8
   replace A6:=A6.kept F8
   replace D6:=D6.then F8
   clear k5 k6 k12 F8
   go_wp2_with fail
   refine (look_on ({ x with k:=v }:Lok) hi b _ h6).mono ?_;rintro e w7 ⟨rfl,h7,F7⟩
   have A7:=A6.kept F7 (by simp;exact hp.symm) (by simp;exact hq.symm)
   have D7:=frSub D6 F7 (by simp)
   clear h6 A6 F7 D6
   obtain ⟨-,-,-,-,-,-,-,-,c8,-,-,-,-,-,-⟩:=lok_cells h7
   go_wp2_with fail
   go_ret
   exact ⟨rfl,⟨(Lok.on ({ x with k:=v }:Lok)).lv,h7,by rw [lok_on_lv,lok_on_l];exact sqT hs D7 hb hp2 hq2,.inl (lok_on_lv _)⟩,A7,D7⟩
  have g2:decide (v>x.hi)=false:=by simpa using e2
  by_cases e3:x.s=1
  ·have g3:(x.s == 1)=true:=by simpa using e3
   have hn:y = { x with k:=v,line:=4 }:=by rw [← HY.out];unfold Lok.next;simp [hl,e1,e2,e3]
   subst hn
   have HE:=Lib.hid e3
   clear e3
   obtain ⟨-,-,-,-,-,c5,c6,-,-,-,-,-,c12,-,-⟩:=lok_cells h6
   have k5:=In.cell c5
   have k6:=In.cell c6
   have k12:=In.cell c12
   clear c5 c6 c12
   refine wi ?_
   repeat (go_big_quiet_step (fail))
   refine wpQuiet_nil ?_
   intro w8 F8
   replace h6:=Ob.up h6 F8
   replace A6:=A6.kept F8
   replace D6:=D6.then F8
   clear k5 k6 k12 F8
   obtain ⟨c0,c1,c2,c3,c4,c5,c6,c7,c8,c9,c10,c11,c12,c13,c14⟩:=lok_cells h6
   have z:=h6.frozen
   go_wp2_with fail
   go_ret
   exact ⟨rfl,⟨x.lv,Ob.set h6 (i:=8) (.int .i64 4),sqT hs (Fr.setCell' D6 (b:=b) (i:=8) (.int .i64 4) (by simp)) hb hp2 hq2,.inl rfl⟩,Rar.set A6 hp hq (i:=8) (.int .i64 4),Fr.setCell' D6 (b:=b) (i:=8) (.int .i64 4) (by simp)⟩
  have g3:(x.s == 1)=false:=by simpa using e3
  have hn:y=Lok.seven ({ x with k:=v }:Lok):=by rw [← HY.out];unfold Lok.next;simp [hl,e1,e2,e3]
  subst hn
  obtain ⟨-,-,-,-,-,c5,c6,-,-,-,-,-,c12,-,-⟩:=lok_cells h6
  have k5:=In.cell c5
  have k6:=In.cell c6
  have k12:=In.cell c12
  clear c5 c6 c12
  refine wi ?_
  repeat (go_big_quiet_step (fail))
  refine wpQuiet_nil ?_
  intro w8 F8
  replace h6:=Ob.up h6 F8
  replace A6:=A6.kept F8
  replace D6:=D6.then F8
  clear k5 k6 k12 F8
  obtain ⟨-,-,-,-,-,-,-,-,-,-,-,c11,-,-,-⟩:=lok_cells h6
  go_wp2_with fail
  clear c11
  refine (look_seven ({ x with k:=v }:Lok) hi b _ (by omega:x.l.length≤1000) h6 (sqT hs D6 hb hp2 hq2) hb).mono ?_;rintro e w7 ⟨rfl,h7,F7⟩
  have A7:=A6.kept F7 (by simp;exact hp.symm) (by simp;exact hq.symm)
  have D7:=frSub D6 F7 (by simp)
  clear h6 A6 F7 D6
  obtain ⟨-,-,-,-,-,-,-,-,c8,-,-,-,-,-,-⟩:=lok_cells h7
  go_wp2_with fail
  go_ret
  exact ⟨rfl,⟨(Lok.seven ({ x with k:=v }:Lok)).lv,h7,by rw [lok_seven_lv,lok_seven_l];exact sqT hs D7 hb hp2 hq2,.inl (lok_seven_lv _)⟩,A7,D7⟩
theorem look_step1 (x:Lok) (hl:x.line=1) (hc:x.c.Ok) (hi:-1≤x.i∧x.i≤100) (hlen:x.l.length≤900) (b p q:Nat) (s:St) (w:World) (h:LokAt w b x) (hA:Rar w p q s) (hp:b≠p) (hq:b≠q) (hs:Sq fT w x.lv x.l) (hb:b∉x.lv.ownBlock.toList) (hp2:p∉x.lv.ownBlock.toList) (hq2:q∉x.lv.ownBlock.toList) :
  Calls Tryz.prog 21 #[.pointer (some ⟨b,0,none⟩),.pointer (some ⟨p,0,none⟩)] w (LokPost w x b p q (x.next (peek s.l (wrap64 (x.chunk+1)))) (s.load (wrap64 (x.chunk+1)))):=by
 generalize hy:x.next (peek s.l (wrap64 (x.chunk+1)))=y
 have HY:=Lib.hid hy
 clear hy
 obtain ⟨c0,c1,c2,c3,c4,c5,c6,c7,c8,c9,c10,c11,c12,c13,c14⟩:=lok_cells h
 have z:=h.frozen
 go_enter Tryz.func21,Tryz.ntmps21
 go_wp2_with fail
 have k4:=In.cell c4
 have k9:=In.cell c9
 clear c0 c1 c2 c3 c4 c5 c6 c7 c8 c9 c10 c11 c12 c13 c14 z
 refine wi ?_
 repeat (go_big_quiet_step ((go_at_call 29;exact Calls.in_same (stAt_any _ _ _))))
 refine wpQuiet_nil ?_
 intro w0 F0
 rw [show stAt x.chunk x.i=x.sa from rfl]
 have h0:LokAt w0 b x:=Ob.up h F0
 have A0:=hA.kept F0
 have D0:Fr [b,p,q] w w0:=F0.mono
 clear k4 k9 h hA F0
 obtain ⟨c0,c1,c2,c3,c4,c5,c6,c7,c8,c9,c10,c11,c12,c13,c14⟩:=lok_cells h0
 have z:=h0.frozen
 go_wp2_with fail
 clear c0 c1 c2 c3 c4 c5 c6 c7 c8 c9 c10 c11 c12 c13 c14 z
 refine wp_region_free (by kernel_rfl) ?_
 refine take_move 1 rfl (by kernel_rfl) (by kernel_rfl) (by kernel_rfl) rfl (fun _ _ d _ _ h=>by cases d <;> exact h) ?_
 go_frame
 refine any_envL [p,q] w0 #[true,true,true,true,true,true,true,true,true,true,true,true,true,true,true,true,false,false,false,false,false,false] 15 6 rfl ?_
 refine lp [true,false,true,true,true,true,true,true,false,true,true,true,true,true,false,false,false,false,false,false,false,false] 3 ((Fr.refl _ w0).drew) ?_
 apply Exists.intro
 refine ⟨fun wf Ff=>?_,?_⟩
 ·have hf:LokAt wf b x:=Ob.kept h0 Ff (by simp;exact ⟨hp,hq⟩)
  obtain ⟨-,c1,-,-,c4,-,-,-,-,-,-,-,-,-,-⟩:=lok_cells hf
  have k1:=In.cell c1
  have k4:=In.cell c4
  clear c1 c4 hf
  simp only [sel]
  repeat (go_big_quiet_step (fail))
  exact wpQuiet_nil rfl
 refine lo 8 (fun w3 F3=>?_)
 have E3:=(Fr.refl [] w0).drew.trans F3
 have A3:=A0.kept E3
 have h3:=Ob.up h0 E3
 have D3:=D0.then E3
 clear A0 h0 D0 F3
 go_wp2_with fail
 refine (Ref.load_any _ p q s _ A3).mono ?_;rintro e w4 ⟨rfl,A4,F4⟩
 have h4:=Ob.kept h3 F4 (by simp;exact ⟨hp,hq⟩)
 have D4:=frSub D3 F4 (by simp)
 have E4:=(E3.mono (T:=[p,q]) (by simp)).trans F4
 clear A3 h3 D3 F4 E3
 generalize hv:peek s.l (wrap64 (x.chunk+1))=v at *
 go_wp2_with fail
 refine nx_normal ⟨E4.mono,?_⟩
 refine lo 14 (fun w5 F5=>?_)
 have A5:=A4.kept F5
 have h5:=h4.up F5
 have D5:=D4.then F5
 have E5:=E4.then F5
 clear A4 h4 D4 E4 F5
 have hc2:=hc.c2
 have hct:=hc.t1
 by_cases e1:x.c.c<v
 ·have hN:max 0 (min v x.c.c)=x.c.c:=by omega
  have hn:y=Lok.on { x with count:=x.c.c,i:=-1 }:=by rw [← HY.out];unfold Lok.next;rw [if_pos hl,hN]
  subst hn
  clear hN
  go_wp2_with fail
  refine nx_normal ⟨E5.mono,?_⟩
  refine lo 15 (fun w7 F7=>?_)
  replace A5:=A5.kept F7
  replace h5:=h5.up F7
  replace D5:=D5.then F7
  replace E5:=E5.then F7
  clear F7
  go_wp2_with fail
  refine nx_normal ⟨E5.mono,?_⟩
  refine envL_tail (k:=16) rfl (by kernel_rfl) (fun w8 F8=>?_)
  replace A5:=A5.kept F8
  replace h5:=h5.up F8
  replace D5:=D5.then F8
  clear F8 E5
  obtain ⟨c0,c1,c2,c3,c4,c5,c6,c7,c8,c9,c10,c11,c12,c13,c14⟩:=lok_cells h5
  have z:=h5.frozen
  go_wp2_with fail
  have h6:LokAt ((w8.setCell ⟨b,10,none⟩ (.int .i64 x.c.c)).setCell ⟨b,9,none⟩ (.int .i64 (-1))) b { x with count:=x.c.c,i:=-1 }:=(Ob.set (Ob.set h5 (i:=10) (.int .i64 x.c.c)) (i:=9) (.int .i64 (-1)))
  have A6:=(Rar.set (Rar.set A5 hp hq (i:=10) (.int .i64 x.c.c)) hp hq (i:=9) (.int .i64 (-1)))
  have D6:=(Fr.setCell' (Fr.setCell' D5 (b:=b) (i:=10) (.int .i64 x.c.c) (by simp)) (b:=b) (i:=9) (.int .i64 (-1)) (by simp))
  generalize ((w8.setCell ⟨b,10,none⟩ (.int .i64 x.c.c)).setCell ⟨b,9,none⟩ (.int .i64 (-1)))=w6 at *
  clear h5 A5 D5
  clear c0 c1 c2 c3 c4 c5 c6 c7 c8 c9 c10 c11 c12 c13 c14 z
  refine (look_on ({ x with count:=x.c.c,i:=-1 }:Lok) (by simp) b _ h6).mono ?_;rintro e w7 ⟨rfl,h7,F7⟩
  have A7:=A6.kept F7 (by simp;exact hp.symm) (by simp;exact hq.symm)
  have D7:=frSub D6 F7 (by simp)
  clear h6 A6 F7 D6
  obtain ⟨-,-,-,-,-,-,-,-,c8,-,-,-,-,-,-⟩:=lok_cells h7
  go_wp2_with fail
  go_ret
  exact ⟨rfl,⟨(Lok.on ({ x with count:=x.c.c,i:=-1 }:Lok)).lv,h7,by rw [lok_on_lv,lok_on_l];exact sqT hs D7 hb hp2 hq2,.inl (lok_on_lv _)⟩,A7,D7⟩
 ·by_cases e2:0<v
  ·have hN:max 0 (min v x.c.c)=v:=by omega
   have hn:y=Lok.on { x with count:=v,i:=-1 }:=by rw [← HY.out];unfold Lok.next;rw [if_pos hl,hN]
   subst hn
   clear hN
   go_wp2_with fail
   refine nx_normal ⟨E5.mono,?_⟩
   refine lo 15 (fun w7 F7=>?_)
   replace A5:=A5.kept F7
   replace h5:=h5.up F7
   replace D5:=D5.then F7
   replace E5:=E5.then F7
   clear F7
   go_wp2_with fail
   refine nx_normal ⟨E5.mono,?_⟩
   refine envL_tail (k:=16) rfl (by kernel_rfl) (fun w8 F8=>?_)
   replace A5:=A5.kept F8
   replace h5:=h5.up F8
   replace D5:=D5.then F8
   clear F8 E5
   obtain ⟨c0,c1,c2,c3,c4,c5,c6,c7,c8,c9,c10,c11,c12,c13,c14⟩:=lok_cells h5
   have z:=h5.frozen
   go_wp2_with fail
   have h6:LokAt ((w8.setCell ⟨b,10,none⟩ (.int .i64 v)).setCell ⟨b,9,none⟩ (.int .i64 (-1))) b { x with count:=v,i:=-1 }:=(Ob.set (Ob.set h5 (i:=10) (.int .i64 v)) (i:=9) (.int .i64 (-1)))
   have A6:=(Rar.set (Rar.set A5 hp hq (i:=10) (.int .i64 v)) hp hq (i:=9) (.int .i64 (-1)))
   have D6:=(Fr.setCell' (Fr.setCell' D5 (b:=b) (i:=10) (.int .i64 v) (by simp)) (b:=b) (i:=9) (.int .i64 (-1)) (by simp))
   generalize ((w8.setCell ⟨b,10,none⟩ (.int .i64 v)).setCell ⟨b,9,none⟩ (.int .i64 (-1)))=w6 at *
   clear h5 A5 D5
   clear c0 c1 c2 c3 c4 c5 c6 c7 c8 c9 c10 c11 c12 c13 c14 z
   refine (look_on ({ x with count:=v,i:=-1 }:Lok) (by simp) b _ h6).mono ?_;rintro e w7 ⟨rfl,h7,F7⟩
   have A7:=A6.kept F7 (by simp;exact hp.symm) (by simp;exact hq.symm)
   have D7:=frSub D6 F7 (by simp)
   clear h6 A6 F7 D6
   obtain ⟨-,-,-,-,-,-,-,-,c8,-,-,-,-,-,-⟩:=lok_cells h7
   go_wp2_with fail
   go_ret
   exact ⟨rfl,⟨(Lok.on ({ x with count:=v,i:=-1 }:Lok)).lv,h7,by rw [lok_on_lv,lok_on_l];exact sqT hs D7 hb hp2 hq2,.inl (lok_on_lv _)⟩,A7,D7⟩
  have hN:max 0 (min v x.c.c)=0:=by omega
  have hn:y=Lok.on { x with count:=0,i:=-1 }:=by rw [← HY.out];unfold Lok.next;rw [if_pos hl,hN]
  subst hn
  clear hN
  go_wp2_with fail
  refine nx_normal ⟨E5.mono,?_⟩
  refine lo 15 (fun w7 F7=>?_)
  replace A5:=A5.kept F7
  replace h5:=h5.up F7
  replace D5:=D5.then F7
  replace E5:=E5.then F7
  clear F7
  go_wp2_with fail
  refine nx_normal ⟨E5.mono,?_⟩
  refine envL_tail (k:=16) rfl (by kernel_rfl) (fun w8 F8=>?_)
  replace A5:=A5.kept F8
  replace h5:=h5.up F8
  replace D5:=D5.then F8
  clear F8 E5
  obtain ⟨c0,c1,c2,c3,c4,c5,c6,c7,c8,c9,c10,c11,c12,c13,c14⟩:=lok_cells h5
  have z:=h5.frozen
  go_wp2_with fail
  have h6:LokAt ((w8.setCell ⟨b,10,none⟩ (.int .i64 0)).setCell ⟨b,9,none⟩ (.int .i64 (-1))) b { x with count:=0,i:=-1 }:=(Ob.set (Ob.set h5 (i:=10) (.int .i64 0)) (i:=9) (.int .i64 (-1)))
  have A6:=(Rar.set (Rar.set A5 hp hq (i:=10) (.int .i64 0)) hp hq (i:=9) (.int .i64 (-1)))
  have D6:=(Fr.setCell' (Fr.setCell' D5 (b:=b) (i:=10) (.int .i64 0) (by simp)) (b:=b) (i:=9) (.int .i64 (-1)) (by simp))
  generalize ((w8.setCell ⟨b,10,none⟩ (.int .i64 0)).setCell ⟨b,9,none⟩ (.int .i64 (-1)))=w6 at *
  clear h5 A5 D5
  clear c0 c1 c2 c3 c4 c5 c6 c7 c8 c9 c10 c11 c12 c13 c14 z
  refine (look_on ({ x with count:=0,i:=-1 }:Lok) (by simp) b _ h6).mono ?_;rintro e w7 ⟨rfl,h7,F7⟩
  have A7:=A6.kept F7 (by simp;exact hp.symm) (by simp;exact hq.symm)
  have D7:=frSub D6 F7 (by simp)
  clear h6 A6 F7 D6
  obtain ⟨-,-,-,-,-,-,-,-,c8,-,-,-,-,-,-⟩:=lok_cells h7
  go_wp2_with fail
  go_ret
  exact ⟨rfl,⟨(Lok.on ({ x with count:=0,i:=-1 }:Lok)).lv,h7,by rw [lok_on_lv,lok_on_l];exact sqT hs D7 hb hp2 hq2,.inl (lok_on_lv _)⟩,A7,D7⟩
theorem lok_on_set (x:Lok) (l:List It) (lv:Value):({ x with l:=l,lv:=lv }:Lok).on = { ({ x with l:=l }:Lok).on with lv:=lv }:=by unfold Lok.on;simp only;split <;> rfl
theorem look_step7 (x:Lok) (hl:x.line=7) (hc:x.c.Ok) (hi:-1≤x.i∧x.i≤100) (hlen:x.l.length≤900) (b p q:Nat) (s:St) (w:World) (h:LokAt w b x) (hA:Rar w p q s) (hp:b≠p) (hq:b≠q) (hs:Sq fT w x.lv x.l) (hb:b∉x.lv.ownBlock.toList) (hp2:p∉x.lv.ownBlock.toList) (hq2:q∉x.lv.ownBlock.toList) :
  Calls Tryz.prog 21 #[.pointer (some ⟨b,0,none⟩),.pointer (some ⟨p,0,none⟩)] w (LokPost w x b p q (x.next (peek s.l (wrap64 (x.sa+2)))) (s.load (wrap64 (x.sa+2)))):=by
 generalize hy:x.next (peek s.l (wrap64 (x.sa+2)))=y
 have hn:y=({ x with l:=putK x.l ⟨x.k,verW x.s,peek s.l (wrap64 (x.sa+2))⟩ }:Lok).on:=by rw [← hy];unfold Lok.next;simp [hl]
 clear hy
 subst hn
 obtain ⟨c0,c1,c2,c3,c4,c5,c6,c7,c8,c9,c10,c11,c12,c13,c14⟩:=lok_cells h
 have z:=h.frozen
 go_enter Tryz.func21,Tryz.ntmps21
 go_wp2_with fail
 have k4:=In.cell c4
 have k9:=In.cell c9
 clear c0 c1 c2 c3 c4 c5 c6 c7 c8 c9 c10 c11 c12 c13 c14 z
 refine wi ?_
 repeat (go_big_quiet_step ((go_at_call 29;exact Calls.in_same (stAt_any _ _ _))))
 refine wpQuiet_nil ?_
 intro w0 F0
 rw [show stAt x.chunk x.i=x.sa from rfl]
 have h0:LokAt w0 b x:=Ob.up h F0
 have A0:=hA.kept F0
 have D0:Fr [b,p,q] w w0:=F0.mono
 clear k4 k9 h hA F0
 obtain ⟨c0,c1,c2,c3,c4,c5,c6,c7,c8,c9,c10,c11,c12,c13,c14⟩:=lok_cells h0
 have z:=h0.frozen
 go_wp2_with fail
 clear c0 c1 c2 c3 c4 c5 c6 c7 c8 c9 c10 c11 c12 c13 c14 z
 generalize hv:peek s.l (wrap64 (x.sa+2))=v at *
 have h6:=h0
 have A6:=A0
 clear h0 A0
 refine wp_region_env (by kernel_rfl) [b,p,q] (fun w2 F2=>?_)
 have E:Fr [b,p,q] w0 w2:=F2.mono
 replace h6:=h6.up F2
 replace A6:=A6.kept F2
 clear F2
 refine ep [true,true,true,true,false,true,true,true,false,false,true,true,true,false,false,false] 6 E ?_
 apply Exists.intro
 refine ⟨fun wf Ff=>?_,?_⟩
 ·simp only [sel]
  repeat (go_big_quiet_step (fail))
  exact wpQuiet_nil rfl
 refine env_ready [4,8] (by kernel_rfl) (by simp) (fun wx Fx m hm o ho=>?_)
 replace E:=E.then Fx
 replace h6:=h6.up Fx
 replace A6:=A6.kept Fx
 clear Fx
 simp only [List.mem_cons,List.not_mem_nil,or_false] at hm
 rcases hm with rfl | rfl
 ·obtain rfl:=Option.some.inj ho
  obtain ⟨-,-,-,-,-,-,-,-,-,-,-,-,c12,-,-⟩:=lok_cells h6
  go_wp2_with fail
  clear c12
  refine nx_normal ⟨E,?_⟩
  refine eo 8 (fun wx Fx=>?_)
  replace E:=E.then Fx
  replace h6:=h6.up Fx
  replace A6:=A6.kept Fx
  clear Fx
  obtain ⟨-,-,-,-,-,-,-,-,-,-,-,c11,-,-,-⟩:=lok_cells h6
  go_wp2_with fail
  clear c11
  refine nx_normal ⟨E,?_⟩
  refine ep [false,false,false,false,false,false,false,false,false,true,false,false,false,false,false,false] 3 E ?_
  apply Exists.intro
  refine ⟨fun wf Ff=>?_,?_⟩
  ·simp only [sel]
   repeat (go_big_quiet_step ((go_at_call 32;exact Calls.in_same (ver_any _ _))))
   exact wpQuiet_nil rfl
  refine eo 13 (fun wx Fx=>?_)
  replace E:=E.then Fx
  replace h6:=h6.up Fx
  replace A6:=A6.kept Fx
  clear Fx
  go_wp2_with fail
  refine (Ref.load_any _ p q s _ A6).mono ?_;rintro e w6 ⟨rfl,A5,F5⟩
  clear A6
  have A6:=A5
  clear A5
  replace h6:=Ob.kept h6 F5 (by simp;exact ⟨hp,hq⟩)
  replace E:=frSub E F5 (by simp)
  clear F5
  rw [hv]
  go_wp2_with fail
  refine nx_normal ⟨E,?_⟩
  refine eo 14 (fun wx Fx=>?_)
  replace E:=E.then Fx
  replace h6:=h6.up Fx
  replace A6:=A6.kept Fx
  clear Fx
  go_wp2_with fail
  refine nx_normal ⟨E,?_⟩
  refine eo 15 (fun wx Fx=>?_)
  replace E:=E.then Fx
  replace h6:=h6.up Fx
  replace A6:=A6.kept Fx
  clear Fx
  have D6:=D0.trans E
  have hlw:=D6.size
  have hb6:=h6.lt
  go_wp2_with fail
  refine (look_put x ⟨x.k,verW x.s,v⟩ b _ (by omega) h6 (sqT hs D6 hb hp2 hq2) hb).mono ?_;rintro e w6 ⟨rfl,⟨lv',h7,hs7,hg7⟩,F7⟩
  have A7:=A6.kept F7 (by simp;exact hp.symm) (by simp;exact hq.symm)
  replace E:=E.trans (F7.mono)
  clear h6 A6 F7 D6
  go_wp2_with fail
  refine nx_normal ⟨E,?_⟩
  refine env_done (by kernel_rfl) (fun wx Fx=>?_)
  replace h7:=h7.up Fx
  replace hs7:=hs7.up Fx
  replace A7:=A7.kept Fx
  have D7:=D0.trans (E.then Fx)
  clear Fx E
  have hbw:=h7.lt
  go_wp2_with fail
  refine (look_on ({ x with l:=putK x.l ⟨x.k,verW x.s,v⟩,lv:=lv' }:Lok) hi b _ h7).mono ?_;rintro e w8 ⟨rfl,h8,F8⟩
  have A8:=A7.kept F8 (by simp;exact hp.symm) (by simp;exact hq.symm)
  have D8:=frSub D7 F8 (by simp)
  have hs8:=hs7.kept F8 (fun g hg hi=>by rw [List.mem_singleton.1 hi] at hg;have:=hg7 _ hg;omega)
  clear h7 A7 hs7
  rw [lok_on_set] at h8
  obtain ⟨-,-,-,-,-,-,-,-,c8,-,-,-,-,-,-⟩:=lok_cells h8
  go_wp2_with fail
  go_ret
  exact ⟨rfl,⟨lv',h8,by rw [lok_on_l];exact hs8,.inr ⟨by rw [lok_on_l];exact putK_ne _ _,fun g hg=>Nat.le_trans hlw (hg7 g hg)⟩⟩,A8,D8⟩
 ·obtain rfl:=Option.some.inj ho
  obtain ⟨-,-,-,-,-,-,-,-,-,-,-,c11,-,-,-⟩:=lok_cells h6
  go_wp2_with fail
  clear c11
  refine nx_normal ⟨E,?_⟩
  refine ep [false,false,false,false,false,false,false,false,false,true,false,false,false,false,false,false] 4 E ?_
  apply Exists.intro
  refine ⟨fun wf Ff=>?_,?_⟩
  ·simp only [sel]
   repeat (go_big_quiet_step ((go_at_call 32;exact Calls.in_same (ver_any _ _))))
   exact wpQuiet_nil rfl
  refine env_ready [4,13] (by kernel_rfl) (by simp) (fun wx Fx m hm o ho=>?_)
  replace E:=E.then Fx
  replace h6:=h6.up Fx
  replace A6:=A6.kept Fx
  clear Fx
  simp only [List.mem_cons,List.not_mem_nil,or_false] at hm
  rcases hm with rfl | rfl
  focus
   obtain rfl:=Option.some.inj ho
   obtain ⟨-,-,-,-,-,-,-,-,-,-,-,-,c12,-,-⟩:=lok_cells h6
   go_wp2_with fail
   clear c12
   refine nx_normal ⟨E,?_⟩
   refine eo 13 (fun wx Fx=>?_)
   replace E:=E.then Fx
   replace h6:=h6.up Fx
   replace A6:=A6.kept Fx
   clear Fx
   go_wp2_with fail
   refine (Ref.load_any _ p q s _ A6).mono ?_;rintro e w6 ⟨rfl,A5,F5⟩
   clear A6
   have A6:=A5
   clear A5
   replace h6:=Ob.kept h6 F5 (by simp;exact ⟨hp,hq⟩)
   replace E:=frSub E F5 (by simp)
   clear F5
   rw [hv]
   go_wp2_with fail
  rotate_left
  focus
   obtain rfl:=Option.some.inj ho
   go_wp2_with fail
   refine (Ref.load_any _ p q s _ A6).mono ?_;rintro e w6 ⟨rfl,A5,F5⟩
   clear A6
   have A6:=A5
   clear A5
   replace h6:=Ob.kept h6 F5 (by simp;exact ⟨hp,hq⟩)
   replace E:=frSub E F5 (by simp)
   clear F5
   rw [hv]
   go_wp2_with fail
   refine nx_normal ⟨E,?_⟩
   refine eo 4 (fun wx Fx=>?_)
   replace E:=E.then Fx
   replace h6:=h6.up Fx
   replace A6:=A6.kept Fx
   clear Fx
   obtain ⟨-,-,-,-,-,-,-,-,-,-,-,-,c12,-,-⟩:=lok_cells h6
   go_wp2_with fail
   clear c12
  rotate_left
  all_goals
   refine nx_normal ⟨E,?_⟩
   refine eo 14 (fun wx Fx=>?_)
   replace E:=E.then Fx
   replace h6:=h6.up Fx
   replace A6:=A6.kept Fx
   clear Fx
   go_wp2_with fail
   refine nx_normal ⟨E,?_⟩
   refine eo 15 (fun wx Fx=>?_)
   replace E:=E.then Fx
   replace h6:=h6.up Fx
   replace A6:=A6.kept Fx
   clear Fx
   have D6:=D0.trans E
   have hlw:=D6.size
   have hb6:=h6.lt
   go_wp2_with fail
   refine (look_put x ⟨x.k,verW x.s,v⟩ b _ (by omega) h6 (sqT hs D6 hb hp2 hq2) hb).mono ?_;rintro e w6 ⟨rfl,⟨lv',h7,hs7,hg7⟩,F7⟩
   have A7:=A6.kept F7 (by simp;exact hp.symm) (by simp;exact hq.symm)
   replace E:=E.trans (F7.mono)
   clear h6 A6 F7 D6
   go_wp2_with fail
   refine nx_normal ⟨E,?_⟩
   refine env_done (by kernel_rfl) (fun wx Fx=>?_)
   replace h7:=h7.up Fx
   replace hs7:=hs7.up Fx
   replace A7:=A7.kept Fx
   have D7:=D0.trans (E.then Fx)
   clear Fx E
   have hbw:=h7.lt
   go_wp2_with fail
   refine (look_on ({ x with l:=putK x.l ⟨x.k,verW x.s,v⟩,lv:=lv' }:Lok) hi b _ h7).mono ?_;rintro e w8 ⟨rfl,h8,F8⟩
   have A8:=A7.kept F8 (by simp;exact hp.symm) (by simp;exact hq.symm)
   have D8:=frSub D7 F8 (by simp)
   have hs8:=hs7.kept F8 (fun g hg hi=>by rw [List.mem_singleton.1 hi] at hg;have:=hg7 _ hg;omega)
   clear h7 A7 hs7
   rw [lok_on_set] at h8
   obtain ⟨-,-,-,-,-,-,-,-,c8,-,-,-,-,-,-⟩:=lok_cells h8
   go_wp2_with fail
   go_ret
   exact ⟨rfl,⟨lv',h8,by rw [lok_on_l];exact hs8,.inr ⟨by rw [lok_on_l];exact putK_ne _ _,fun g hg=>Nat.le_trans hlw (hg7 g hg)⟩⟩,A8,D8⟩
theorem look_step0 (x:Lok) (hl:x.live=false) (b p q:Nat) (w:World) (h:LokAt w b x) :
  Calls Tryz.prog 21 #[.pointer (some ⟨b,0,none⟩),.pointer (some ⟨p,0,none⟩)] w fun e w'=>e = .returned (.bool (decide (x.line=0)))∧Fr [] w w':=by
 obtain ⟨c0,c1,c2,c3,c4,c5,c6,c7,c8,c9,c10,c11,c12,c13,c14⟩:=lok_cells h
 unfold Lok.live at hl
 have l1:x.line≠1:=by intro h;rw [h] at hl;simp at hl
 have l2:x.line≠2:=by intro h;rw [h] at hl;simp at hl
 have l3:x.line≠3:=by intro h;rw [h] at hl;simp at hl
 have l4:x.line≠4:=by intro h;rw [h] at hl;simp at hl
 have l5:x.line≠5:=by intro h;rw [h] at hl;simp at hl
 have l6:x.line≠6:=by intro h;rw [h] at hl;simp at hl
 have l7:x.line≠7:=by intro h;rw [h] at hl;simp at hl
 clear hl
 go_enter Tryz.func21,Tryz.ntmps21
 go_wp2_with fail
 have k4:=In.cell c4
 have k9:=In.cell c9
 have hcl:=c8
 clear c0 c1 c2 c3 c4 c5 c6 c7 c8 c9 c10 c11 c12 c13 c14
 refine wi ?_
 repeat (go_big_quiet_step ((go_at_call 29;exact Calls.in_same (stAt_any _ _ _))))
 refine wpQuiet_nil ?_
 intro w0 F0
 have c8:=F0.cell hcl (by simp)
 go_wp2_with fail
 go_ret
 exact ⟨rfl,F0⟩
theorem look_step (x:Lok) (hc:x.c.Ok) (hi:-1≤x.i∧x.i≤100) (hlen:x.l.length≤900) (b p q:Nat) (s:St) (w:World) (h:LokAt w b x) (hA:Rar w p q s) (hp:b≠p) (hq:b≠q) (hs:Sq fT w x.lv x.l) (hb:b∉x.lv.ownBlock.toList) (hp2:p∉x.lv.ownBlock.toList) (hq2:q∉x.lv.ownBlock.toList) :
  Calls Tryz.prog 21 #[.pointer (some ⟨b,0,none⟩),.pointer (some ⟨p,0,none⟩)] w (LokPost w x b p q (x.step s).1 (x.step s).2):=by
 unfold Lok.step
 cases hl:x.live with
 | false=>exact (look_step0 x hl b p q w h).mono (by rintro e w' ⟨rfl,F⟩;exact ⟨rfl,⟨x.lv,Ob.up h F,hs.up F,.inl rfl⟩,hA.kept F,F.mono⟩)
 | true =>
  unfold Lok.live at hl
  have hl':x.line=1∨x.line=2∨x.line=3∨x.line=4∨x.line=5∨x.line=6∨x.line=7:=by
   simp only [Bool.and_eq_true,decide_eq_true_eq] at hl;omega
  rw [if_pos rfl]
  rcases hl' with l | l | l | l | l | l | l
  ·rw [show x.act s=s.load (wrap64 (x.chunk+1)) by unfold Lok.act;simp [l],show x.told s=peek s.l (wrap64 (x.chunk+1)) by unfold Lok.told;simp [l]];exact look_step1 x l hc hi hlen b p q s w h hA hp hq hs hb hp2 hq2
  ·rw [show x.act s=s.load x.sa by unfold Lok.act;simp [l],show x.told s=peek s.l x.sa by unfold Lok.told;simp [l]];exact look_step2 x l hc hi hlen b p q s w h hA hp hq hs hb hp2 hq2
  ·rw [show x.act s=s.load (wrap64 (x.sa+1)) by unfold Lok.act;simp [l],show x.told s=peek s.l (wrap64 (x.sa+1)) by unfold Lok.told;simp [l]];exact look_step3 x l hc hi hlen b p q s w h hA hp hq hs hb hp2 hq2
  ·rw [show x.act s=s.load 1 by unfold Lok.act;simp [l],show x.told s=peek s.l 1 by unfold Lok.told;simp [l]];exact look_step4 x l hc hi hlen b p q s w h hA hp hq hs hb hp2 hq2
  ·rw [show x.act s=s.swap x.sa 1 (stateW x.g) by unfold Lok.act;simp [l]];exact look_step5 x l hc hi hlen b p q s w h hA hp hq hs hb hp2 hq2
  ·rw [show x.act s=s.load x.sa by unfold Lok.act;simp [l],show x.told s=peek s.l x.sa by unfold Lok.told;simp [l]];exact look_step6 x l hc hi hlen b p q s w h hA hp hq hs hb hp2 hq2
  ·rw [show x.act s=s.load (wrap64 (x.sa+2)) by unfold Lok.act;simp [l],show x.told s=peek s.l (wrap64 (x.sa+2)) by unfold Lok.told;simp [l]];exact look_step7 x l hc hi hlen b p q s w h hA hp hq hs hb hp2 hq2
end Go.Proofs.YtilipdnchflkhaaGreatDoor.Mx
namespace Go.Proofs.YtilipdnchflkhaaGreatDoor.Vw
open Go.RowKit Go.Proofs.YtilipdnchflkhaaGreatDoor.Ar Go.Proofs.YtilipdnchflkhaaGreatDoor.Mx
theorem chunk_no (t wd v a:Int) (n p q:Nat) (s:St) (w:World) (h1:1≤n) (h2:n≤16) (h3:n≤s.l.length) (h4:s.l.length≤20000) (hA:Ar w p q s) (ht:thereB s.l.length n a=false) :
  Calls Tryz.prog 40 #[.agg #[.int .i64 t,.int .i64 n,.int .i64 wd,.int .i64 v],.pointer (some ⟨p,0,none⟩),.int .i64 a] w fun e w'=>e = .returned (.tuple #[chV ⟨0,0,0,0,0,0,0,0⟩ (.slice none 0 0),.iface 133 (.int .i64 11)])∧Fr [] w w':=by
 have isE:=Er.isE
 have F0:=((Fr.refl [] w).alloc (.cells #[.int .i64 t,.int .i64 n,.int .i64 wd,.int .i64 v] 23))
 have o1:=Ob.newAt (sizeA w (.cells #[.int .i64 t,.int .i64 n,.int .i64 wd,.int .i64 v] 23)) 70 #[.int .i64 0,.int .i64 0,.int .i64 0,.int .i64 0,.int .i64 0,.int .i64 0,.int .i64 0,.int .i64 0,.slice none 0 0]
 have F1:=F0.alloc (.cells #[.int .i64 0,.int .i64 0,.int .i64 0,.int .i64 0,.int .i64 0,.int .i64 0,.int .i64 0,.int .i64 0,.slice none 0 0] 70)
 clear F0
 go_enter Tryz.func40,Tryz.ntmps40
 go_wp2_with fail
 generalize World.alloc (World.alloc w _) _=w1 at *
 refine (there_any t n wd v a p q s _ (by omega) (by omega) (by omega) h4 (hA.kept F1)).mono ?_;rintro e w2 ⟨rfl,F2⟩
 rw [ht]
 clear ht
 replace o1:=o1.up F2
 replace F1:=F1.trans F2
 clear F2 hA
 have z:=o1.frozen
 obtain ⟨q0,q1,q2,q3,q4,q5,q6,q7,q8⟩:=ch_cells (h:=⟨0,0,0,0,0,0,0,0⟩) (lv:=.slice none 0 0) o1
 go_wp2_with fail
 have o8:=(Ob.set (Ob.set (Ob.set (Ob.set (Ob.set (Ob.set (Ob.set (Ob.set (Ob.set o1 (i:=0) (.int .i64 0)) (i:=1) (.int .i64 0)) (i:=2) (.int .i64 0)) (i:=3) (.int .i64 0)) (i:=4) (.int .i64 0)) (i:=5) (.int .i64 0)) (i:=6) (.int .i64 0)) (i:=7) (.int .i64 0)) (i:=8) (.slice none 0 0))
 have F8:Fr [w.heap.size+1] w2 (((((((((w2.setCell ⟨w.heap.size+1,0,none⟩ (.int .i64 0)).setCell ⟨w.heap.size+1,1,none⟩ (.int .i64 0)).setCell ⟨w.heap.size+1,2,none⟩ (.int .i64 0)).setCell ⟨w.heap.size+1,3,none⟩ (.int .i64 0)).setCell ⟨w.heap.size+1,4,none⟩ (.int .i64 0)).setCell ⟨w.heap.size+1,5,none⟩ (.int .i64 0)).setCell ⟨w.heap.size+1,6,none⟩ (.int .i64 0)).setCell ⟨w.heap.size+1,7,none⟩ (.int .i64 0)).setCell ⟨w.heap.size+1,8,none⟩ (.slice none 0 0)):=(Fr.setCell' (Fr.setCell' (Fr.setCell' (Fr.setCell' (Fr.setCell' (Fr.setCell' (Fr.setCell' (Fr.setCell' (Fr.setCell' (Fr.refl [w.heap.size+1] w2) (b:=w.heap.size+1) (i:=0) (.int .i64 0) (by simp)) (b:=w.heap.size+1) (i:=1) (.int .i64 0) (by simp)) (b:=w.heap.size+1) (i:=2) (.int .i64 0) (by simp)) (b:=w.heap.size+1) (i:=3) (.int .i64 0) (by simp)) (b:=w.heap.size+1) (i:=4) (.int .i64 0) (by simp)) (b:=w.heap.size+1) (i:=5) (.int .i64 0) (by simp)) (b:=w.heap.size+1) (i:=6) (.int .i64 0) (by simp)) (b:=w.heap.size+1) (i:=7) (.int .i64 0) (by simp)) (b:=w.heap.size+1) (i:=8) (.slice none 0 0) (by simp))
 rw [sets9] at o8
 generalize (((((((((w2.setCell ⟨w.heap.size+1,0,none⟩ (.int .i64 0)).setCell ⟨w.heap.size+1,1,none⟩ (.int .i64 0)).setCell ⟨w.heap.size+1,2,none⟩ (.int .i64 0)).setCell ⟨w.heap.size+1,3,none⟩ (.int .i64 0)).setCell ⟨w.heap.size+1,4,none⟩ (.int .i64 0)).setCell ⟨w.heap.size+1,5,none⟩ (.int .i64 0)).setCell ⟨w.heap.size+1,6,none⟩ (.int .i64 0)).setCell ⟨w.heap.size+1,7,none⟩ (.int .i64 0)).setCell ⟨w.heap.size+1,8,none⟩ (.slice none 0 0))=w8 at *
 clear q0 q1 q2 q3 q4 q5 q6 q7 q8 z o1
 obtain ⟨q0,q1,q2,q3,q4,q5,q6,q7,q8⟩:=ch_cells (h:=⟨0,0,0,0,0,0,0,0⟩) (lv:=.slice none 0 0) o8
 refine bodyPost_ret (v:=.tuple #[chV ⟨0,0,0,0,0,0,0,0⟩ (.slice none 0 0),.iface 133 (.int .i64 11)]) ?_ rfl ?_
 ·simp [results,Tryz.results40,go_sem,q0,q1,q2,q3,q4,q5,q6,q7,q8,chV]
 ·exact ⟨rfl,F1.own F8 (by simp)⟩
theorem ix3_0 (a b c:Value) (W:World):(Instr.index 182 (.agg #[a,b,c]) (.int .i64 0)).run Tryz.prog W = .ok a W:=by kernel_rfl
theorem ix3_1 (a b c:Value) (W:World):(Instr.index 182 (.agg #[a,b,c]) (.int .i64 1)).run Tryz.prog W = .ok b W:=by kernel_rfl
theorem ix3_2 (a b c:Value) (W:World):(Instr.index 182 (.agg #[a,b,c]) (.int .i64 2)).run Tryz.prog W = .ok c W:=by kernel_rfl
def layN (s:St) (a:Int) (x:Ce):Nat→St
 | 0=>s
 | 1=>s.poke a x.s
 | 2=>(s.poke a x.s).poke (a+1) x.k
 | _=>((s.poke a x.s).poke (a+1) x.k).poke (a+2) x.d
def LcAt (w:World) (s:St) (a:Int) (x:Ce) (p q:Nat) (u:Value) (wr:World):Prop:=∃ i,i≤3∧u = .int .i64 (i:Nat)∧Ar wr p q (layN s a x i)∧Fr [q] w wr
def layC (s:St) (a:Int) (x:Ce):St:=((s.poke a x.s).poke (a+1) x.k).poke (a+2) x.d
theorem layCell_any (a:Int) (x:Ce) (p q:Nat) (s:St) (w:World) (h0:0≤a) (h1:a≤100000) (hA:Ar w p q s) :
  Calls Tryz.prog 94 #[.pointer (some ⟨p,0,none⟩),.int .i64 a,.agg #[.int .i64 x.s,.int .i64 x.k,.int .i64 x.d]] w fun e w'=>e = .returned (.tuple #[])∧Ar w' p q (layC s a x)∧Fr [q] w w':=by
 have x0:=ix3_0 (.int .i64 x.s) (.int .i64 x.k) (.int .i64 x.d)
 have x1:=ix3_1 (.int .i64 x.s) (.int .i64 x.k) (.int .i64 x.d)
 have x2:=ix3_2 (.int .i64 x.s) (.int .i64 x.k) (.int .i64 x.d)
 have F0:=((Fr.refl [] w).alloc (.cells #[.int .i64 x.s,.int .i64 x.k,.int .i64 x.d] 131))
 have A0:=hA.kept F0
 go_enter Tryz.func94,Tryz.ntmps94
 go_wp2_with fail
 go_loopw [15] (LcAt w s a x p q) (fun u _=>3 - (intOf u).toNat)
 case atStart=>exact ⟨0,by omega,rfl,A0,F0.mono⟩
 case round =>
  obtain ⟨i,hi,rfl,A,F⟩:=hrel
  have h4:i=0∨i=1∨i=2∨i=3:=by omega
  clear A0 F0
  rcases h4 with rfl | rfl | rfl | rfl
  ·go_wp2_with fail
   refine (poke_any _ p q _ _ _ A).mono ?_;rintro e w5 ⟨rfl,A5,F5⟩
   go_wp2_with fail
   go_roundw
   case rel=>exact ⟨1,by omega,by go_num,by simpa [layN] using A5,F.trans F5⟩
   case measure=>simp [intOf]
  ·go_wp2_with fail
   refine (poke_any _ p q _ _ _ A).mono ?_;rintro e w5 ⟨rfl,A5,F5⟩
   go_wp2_with fail
   go_roundw
   case rel=>exact ⟨2,by omega,by go_num,by simpa [layN] using A5,F.trans F5⟩
   case measure=>simp [intOf]
  ·go_wp2_with fail
   refine (poke_any _ p q _ _ _ A).mono ?_;rintro e w5 ⟨rfl,A5,F5⟩
   go_wp2_with fail
   go_roundw
   case rel=>exact ⟨3,by omega,by go_num,by simpa [layN] using A5,F.trans F5⟩
   case measure=>simp [intOf]
  ·go_wp2
   go_end0
   exact ⟨rfl,A,F⟩
end Go.Proofs.YtilipdnchflkhaaGreatDoor.Vw
