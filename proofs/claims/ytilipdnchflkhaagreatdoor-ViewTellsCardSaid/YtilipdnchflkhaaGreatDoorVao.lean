/- Texts that this proof leans on, one behind the other: View, Look4, Pairs, View2. -/
import Derived.Test.YtilipdnchflkhaaGreatDoorVaa
import Derived.Test.YtilipdnchflkhaaGreatDoorVaf
import Derived.Test.YtilipdnchflkhaaGreatDoorVal
import Derived.Test.YtilipdnchflkhaaGreatDoorVam
import Derived.Test.YtilipdnchflkhaaGreatDoorVan
import Derived.ChangeKeysEq
import Derived.WalkSpells
set_option linter.unusedVariables false
set_option linter.unusedSimpArgs false
set_option maxRecDepth 100000
set_option maxHeartbeats 12800000
namespace Go.Proofs.YtilipdnchflkhaaGreatDoor.Vw
open Go.RowKit Go.Proofs.YtilipdnchflkhaaGreatDoor.Ar Go.Proofs.YtilipdnchflkhaaGreatDoor.Mx
structure Ce where
 s:Int
 k:Int
 d:Int
deriving DecidableEq
def fC (x:Ce):List Value:=[.int .i64 x.s,.int .i64 x.k,.int .i64 x.d]
theorem fC_lays:Lays fC 3:=⟨fun _=>rfl,fun x u hu=>by simp [fC] at hu;rcases hu with rfl | rfl | rfl <;> rfl,by decide⟩
theorem ceI:(Tryz.prog.info? 131).map (fun i=>(i.zero,i.size,i.bytes))=some (some (.agg #[.int .i64 0,.int .i64 0,.int .i64 0]),3,24):=by kernel_rfl
structure Hd where
 at_:Int
 mn:Int
 ct:Int
 nx:Int
 ld:Int
 mt:Int
 rp:Int
 st:Int
deriving DecidableEq
def chV (h:Hd) (lv:Value):Value:=.agg #[.int .i64 h.at_,.int .i64 h.mn,.int .i64 h.ct,.int .i64 h.nx,.int .i64 h.ld,.int .i64 h.mt,.int .i64 h.rp,.int .i64 h.st,lv]
def frV (h:Hd):Value:=.agg #[.int .i64 h.at_,.int .i64 h.mn,.int .i64 h.ct,.int .i64 h.nx,.int .i64 h.ld,.int .i64 h.mt,.int .i64 h.rp,.int .i64 h.st]
def chC (h:Hd) (lv:Value):Array Value:=#[.int .i64 h.at_,.int .i64 h.mn,.int .i64 h.ct,.int .i64 h.nx,.int .i64 h.ld,.int .i64 h.mt,.int .i64 h.rp,.int .i64 h.st,lv]
theorem ch_cells {w:World} {b:Nat} {T:TypeId} {h:Hd} {lv:Value} (o:Ob w b T (chC h lv)):w.cell? ⟨b,0,none⟩=some (.int .i64 h.at_)∧w.cell? ⟨b,1,none⟩=some (.int .i64 h.mn)∧w.cell? ⟨b,2,none⟩=some (.int .i64 h.ct)∧w.cell? ⟨b,3,none⟩=some (.int .i64 h.nx)∧w.cell? ⟨b,4,none⟩=some (.int .i64 h.ld)∧w.cell? ⟨b,5,none⟩=some (.int .i64 h.mt)∧w.cell? ⟨b,6,none⟩=some (.int .i64 h.rp)∧w.cell? ⟨b,7,none⟩=some (.int .i64 h.st)∧w.cell? ⟨b,8,none⟩=some lv :=
 ⟨o.cell rfl,o.cell rfl,o.cell rfl,o.cell rfl,o.cell rfl,o.cell rfl,o.cell rfl,o.cell rfl,o.cell rfl⟩
def ChIs (w:World) (v:Value) (h:Hd) (cs:List Ce):Prop:=∃ lv,v=chV h lv∧Sq fC w lv cs
def verV (s:Int):Int:=if s<3 then -1 else wrap64 (s - 3)
def itemC (c:Ce):Option It:=if 3≤c.s then some ⟨c.k,verV c.s,c.d⟩ else none
def itemsC (cs:List Ce):List It:=cs.filterMap itemC
theorem frameOf_any (h:Hd) (lv:Value) (w:World):Calls Tryz.prog 91 #[chV h lv] w fun e w'=>e = .returned (frV h)∧Fr [] w w':=by
 unfold chV frV
 go_enter Tryz.func91,Tryz.ntmps91
 go_wp2
 exact bodyPost_ret (v:=.agg #[.int .i64 h.at_,.int .i64 h.mn,.int .i64 h.ct,.int .i64 h.nx,.int .i64 h.ld,.int .i64 h.mt,.int .i64 h.rp,.int .i64 h.st]) (by simp [results,Tryz.results91,go_sem]) rfl ⟨rfl,((Fr.refl _ _).alloc _).alloc _⟩
theorem frameOf_of (a0 a1 a2 a3 a4 a5 a6 a7:Int) (lv:Value) (w:World):Calls Tryz.prog 91 #[.agg #[.int .i64 a0,.int .i64 a1,.int .i64 a2,.int .i64 a3,.int .i64 a4,.int .i64 a5,.int .i64 a6,.int .i64 a7,lv]] w fun e w'=>e = .returned (.agg #[.int .i64 a0,.int .i64 a1,.int .i64 a2,.int .i64 a3,.int .i64 a4,.int .i64 a5,.int .i64 a6,.int .i64 a7])∧Fr [] w w':=frameOf_any ⟨a0,a1,a2,a3,a4,a5,a6,a7⟩ lv w
theorem version_any (s:Int) (w:World):Calls Tryz.prog 93 #[.int .i64 s] w fun e w'=>e = .returned (.int .i64 (verV s))∧w=w':=by
 by_cases c:s<3
 all_goals
  go_enter Tryz.func93,Tryz.ntmps93
  go_wp2
  go_ret
  exact ret_int (by unfold verV;first | (rw [if_pos (by omega)];done) | (rw [if_neg (by omega)];done))
theorem frGuard:Tryz.prog.eqGuardType Tryz.prog.depth 141=false:=by kernel_rfl
theorem ceGuard:Tryz.prog.eqGuardType Tryz.prog.depth 131=false:=by kernel_rfl
theorem ce_neq (x y:Ce) (W:World):(binOp .neq 131 (.agg #[.int .i64 x.s,.int .i64 x.k,.int .i64 x.d]) (.agg #[.int .i64 y.s,.int .i64 y.k,.int .i64 y.d])).run Tryz.prog W = .ok (.bool (decide (x≠y))) W:=by
 obtain ⟨k,i,o⟩:=x
 obtain ⟨k',i',o'⟩:=y
 have u3:=Tryz.underlying3
 have a3:(isAgg 3).run Tryz.prog W = .ok false W:=by kernel_rfl
 have hS:Tryz.prog.underlying 131=some (.struct (Tryz.prog.fieldsOf 131)):=by kernel_rfl
 have hp:Tryz.prog.stoodInHeld 131=false:=by kernel_rfl
 rw [run_neq_struct,show (10000:Nat)=9999+1 from rfl,run_equalIn_agg W 9999 131 _ _ hS hp]
 simp only [Program.fieldsOf,Tryz.underlying131]
 go_simp
 by_cases h1:k=k' <;> by_cases h2:i=i' <;> by_cases h3:o=o' <;> simp [h1,h2,h3]
theorem fr_items (a1 a2 a3 a4 a5 a6 a7 b1 b2 b3 b4 b5 b6 b7:Int) (W:World):(Op.equalIn 9999 139 (.agg #[.int .i64 a1,.int .i64 a2,.int .i64 a3,.int .i64 a4,.int .i64 a5,.int .i64 a6,.int .i64 a7]) (.agg #[.int .i64 b1,.int .i64 b2,.int .i64 b3,.int .i64 b4,.int .i64 b5,.int .i64 b6,.int .i64 b7])).run Tryz.prog W = .ok (decide (a1=b1∧a2=b2∧a3=b3∧a4=b4∧a5=b5∧a6=b6∧a7=b7)) W:=by
 have u3:=Tryz.underlying3
 have i3:(isAgg 3).run Tryz.prog W = .ok false W:=by kernel_rfl
 have hc:Tryz.prog.cellsOf 3=1:=by kernel_rfl
 obtain ⟨i,hi⟩:=Option.isSome_iff_exists.1 (show (Tryz.prog.info? 3).isSome=true by kernel_rfl)
 rw [show (9999:Nat)=9998+1 from rfl,run_equalIn_array W 9998 _ _ Tryz.underlying139 hi,hc,show List.range 7=[0,1,2,3,4,5,6] from rfl]
 simp only [Op.eqItems]
 go_simp
 by_cases h1:a1=b1 <;> by_cases h2:a2=b2 <;> by_cases h3:a3=b3 <;> by_cases h4:a4=b4 <;> by_cases h5:a5=b5 <;> by_cases h6:a6=b6 <;> by_cases h7:a7=b7 <;> simp [h1,h2,h3,h4,h5,h6,h7]
theorem fr_eql (x y:Hd) (W:World):(binOp .eql 141 (frV x) (frV y)).run Tryz.prog W = .ok (.bool (decide (x=y))) W:=by
 obtain ⟨a0,a1,a2,a3,a4,a5,a6,a7⟩:=x
 obtain ⟨b0,b1,b2,b3,b4,b5,b6,b7⟩:=y
 have u3:=Tryz.underlying3
 have i3:(isAgg 3).run Tryz.prog W = .ok false W:=by kernel_rfl
 have hS:Tryz.prog.underlying 141=some (.struct (Tryz.prog.fieldsOf 141)):=by kernel_rfl
 have hp:Tryz.prog.stoodInHeld 141=false:=by kernel_rfl
 have hI:=fr_items a1 a2 a3 a4 a5 a6 a7 b1 b2 b3 b4 b5 b6 b7 W
 unfold frV
 rw [run_eql_struct,show (10000:Nat)=9999+1 from rfl,run_equalIn_agg W 9999 141 _ _ hS hp]
 simp only [Program.fieldsOf,Tryz.underlying141]
 go_simp
 by_cases h0:a0=b0 <;> by_cases h1:a1=b1∧a2=b2∧a3=b3∧a4=b4∧a5=b5∧a6=b6∧a7=b7 <;> simp_all
theorem ce_cells {w:World} {a:Option Addr} {n cap i:Nat} {xs:List Ce} {x:Ce} (h:Sq fC w (.slice a n cap) xs) (hi:xs[i]? = some x) :
  ∃ g off,a=some ⟨g,off,none⟩∧w.cell? ⟨g,off+i * 3,none⟩=some (.int .i64 x.s)∧w.cell? ⟨g,off+i * 3+1,none⟩=some (.int .i64 x.k)∧w.cell? ⟨g,off+i * 3+2,none⟩=some (.int .i64 x.d):=by
 obtain ⟨-,g,off,rfl,hc⟩:=Sq.cell fC_lays h hi
 exact ⟨g,off,rfl,hc 0 _ rfl,hc 1 _ rfl,hc 2 _ rfl⟩
theorem itemsC_succ {cs:List Ce} {i:Nat} {x:Ce} (hx:cs[i]? = some x):itemsC (cs.take (i+1))=itemsC (cs.take i)++(itemC x).toList:=by
 unfold itemsC
 rw [List.take_add_one,hx,Option.toList_some,List.filterMap_append]
 cases h:itemC x <;> simp [h]
theorem itemsC_length (cs:List Ce):(itemsC cs).length≤cs.length:=by unfold itemsC;exact List.length_filterMap_le _ _
def ItAt (w:World) (cs:List Ce) (u x:Value) (wr:World):Prop:=∃ i,i≤cs.length∧x = .int .i64 (i:Nat)∧wr.ownsRow w.heap.size 60 3 u (itemsC (cs.take i)).length ((itemsC (cs.take i)).flatMap fT)∧Fr [] w wr
theorem items_any (h:Hd) (cs:List Ce) (v:Value) (w:World) (hl:cs.length≤1000) (hv:ChIs w v h cs) :
  Calls Tryz.prog 45 #[v] w fun e w'=>(∃ u,e = .returned u∧w'.ownsRow w.heap.size 60 3 u (itemsC cs).length ((itemsC cs).flatMap fT))∧Fr [] w w':=by
 obtain ⟨lv,rfl,hs⟩:=hv
 obtain ⟨a,cap,rfl,hcap,hmax,-⟩:=id hs
 unfold chV
 obtain ⟨-,-,-,-,-,-,-,-,c8⟩:=ch_cells (Ob.new w 70 (chC h (.slice a cs.length cap)))
 unfold chC at c8
 have F0:=(Fr.refl [] w).alloc (.cells #[.int .i64 h.at_,.int .i64 h.mn,.int .i64 h.ct,.int .i64 h.nx,.int .i64 h.ld,.int .i64 h.mt,.int .i64 h.rp,.int .i64 h.st,.slice a cs.length cap] 70)
 go_enter Tryz.func45,Tryz.ntmps45
 go_wp2_with fail
 have hs0:=hs.up F0
 have hlen0:=F0.size
 clear c8
 generalize (w.alloc (.cells #[.int .i64 h.at_,.int .i64 h.mn,.int .i64 h.ct,.int .i64 h.nx,.int .i64 h.ld,.int .i64 h.mt,.int .i64 h.rp,.int .i64 h.st,.slice a cs.length cap] 70))=w0 at *
 go_loopw [3,9] (ItAt w cs) (fun _ x _=>cs.length - (intOf x).toNat)
 case atStart=>exact ⟨0,by omega,rfl,⟨rfl,.inl ⟨rfl,rfl⟩⟩,F0⟩
 case round =>
  obtain ⟨i,hi,rfl,hr,F⟩:=hrel
  by_cases hlt:i<cs.length
  ·obtain ⟨x,hx⟩:∃ x,cs[i]? = some x:=⟨cs[i],List.getElem?_eq_getElem hlt⟩
   obtain ⟨g,off,rfl,d0,d1,d2⟩:=ce_cells (hs.up F) hx
   have hN:=Lib.hid (itemsC_succ hx)
   have hLI:=Lib.hid (Nat.le_trans (itemsC_length (cs.take i)) (by rw [List.length_take];omega:(cs.take i).length≤1000))
   have F1:=(Fr.refl [] wr).alloc (.cells #[.int .i64 x.s,.int .i64 x.k,.int .i64 x.d] 131)
   have o1:=Ob.new wr 131 #[.int .i64 x.s,.int .i64 x.k,.int .i64 x.d]
   have r1:=row_keeps hr F1
   by_cases h3:3≤x.s
   ·have g1:decide (x.s≥3)=true:=by simpa using h3
    have hI:itemC x=some ⟨x.k,verV x.s,x.d⟩:=by unfold itemC;rw [if_pos h3]
    go_wp2_with fail
    have FW:=F.trans F1
    generalize (wr.alloc (.cells #[.int .i64 x.s,.int .i64 x.k,.int .i64 x.d] 131))=w5 at *
    clear hr
    refine wp_region_env (by kernel_rfl) u3.ownBlock.toList (fun w2 F2=>?_)
    refine ep [true,true,true,true,true,true,true,true,true,false,false,false] 3 (F2.mono) ?_
    apply Exists.intro
    refine ⟨fun wf Ff=>?_,?_⟩
    ·have of:=Ob.kept o1 Ff (row_ne r1 o1 (by decide))
     have k0:=In.cell (of.cell (i:=0) rfl)
     have k1:=In.cell (of.cell (i:=1) rfl)
     have k2:=In.cell (of.cell (i:=2) rfl)
     clear of
     simp only [sel]
     repeat (go_big_quiet_step ((go_at_call 93;exact Calls.in_same (version_any _ _))))
     exact wpQuiet_nil rfl
    have HI:=Lib.hid hI
    clear hI h3 g1 o1
    refine eo 9 (fun w3 F3=>?_)
    have r3:=row_keeps r1 (F2.trans F3)
    have G:=FW.trans (F2.trans F3)
    have M:=(F2.trans F3).size
    have E:=(F2.trans F3).mono (T:=u3.ownBlock.toList) (by simp)
    clear r1 F2 F3
    go_wp2_with fail
    have F4:=(Fr.refl [] w3).alloc (.cells #[.int .i64 x.k,.int .i64 (verV x.s),.int .i64 x.d] 60)
    have o4:=Ob.new w3 60 #[.int .i64 x.k,.int .i64 (verV x.s),.int .i64 x.d]
    refine nx_normal ⟨E.then F4,?_⟩
    refine eo 10 (fun w6 F6=>?_)
    have r6:=row_keeps r3 (F4.trans F6)
    have o6:=o4.up F6
    replace G:=G.trans (F4.trans F6)
    replace E:=E.then (F4.trans F6)
    clear r3 o4 F4 F6
    go_wp2_with (at_builtin;refine wpList_appSq fT_lays rfl _ _ 51 rfl Tryz.underlying51 itI rfl (B:=w.heap.size) _ _ rfl r6 _ [⟨x.k,verV x.s,x.d⟩] rfl (Sq.block o6 rfl rfl (Nat.le_refl _) (by simp [maxLen])) (by have:=hLI.out;simp <;> omega) (by decide) G.size ?_;intro a7 c7 w7 r7 F7;generalize hT:itemsC (cs.take i)++[(⟨x.k,verV x.s,x.d⟩:It)]=T at r7 ⊢)
    refine nx_normal ⟨E.trans F7,?_⟩
    refine eo 11 (fun w8 F8=>?_)
    have hn:itemsC (cs.take (i+1))=T:=by rw [hN.out,HI.out,← hT];rfl
    have r8:=row_keeps r7 F8
    replace G:=(G.own F7 (row_base r6)).trans F8
    replace E:=(E.trans F7).then F8
    rw [← hn] at r8 ⊢
    clear r7 r6 o6 F7 F8 hn hT
    go_wp2
    refine nx_normal ⟨E,?_⟩
    refine env_done (by kernel_rfl) (fun w9 F9=>?_)
    have r9:=row_keeps r8 F9
    replace G:=G.trans F9
    clear r8 F9 E
    go_wp2
    exact ⟨⟨i+1,by omega,by go_num,r9,G⟩,by simp [intOf];omega⟩
   ·have g1:decide (x.s≥3)=false:=by simpa using h3
    have hI:itemC x=none:=by unfold itemC;rw [if_neg h3]
    have hn:=hN.out
    rw [hI,Option.toList_none,List.append_nil] at hn
    have HN:=Lib.hid hn
    clear hn hI hr o1
    go_wp2_with fail
    exact ⟨⟨i+1,by omega,by go_num,by rw [HN.out];exact r1,F.trans F1⟩,by simp [intOf];omega⟩
  ·obtain rfl:i=cs.length:=by omega
   rw [List.take_length] at hr
   have HR:=Lib.hid hr
   clear hr
   go_wp2
   go_ret
   exact ⟨⟨_,rfl,HR.out⟩,F⟩
def EqCAt (w:World) (xs ys:List Ce) (x:Value) (wr:World):Prop:=∃ n:Nat,n≤xs.length∧x = .int .i64 n∧Fr [] w wr∧xs.take n=ys.take n
theorem take_more {α:Type} {xs ys:List α} {n:Nat} {x y:α} (h:xs.take n=ys.take n) (hx:xs[n]? = some x) (hy:ys[n]? = some y) (e:x=y):xs.take (n+1)=ys.take (n+1):=by
 rw [List.take_add_one,List.take_add_one,h,hx,hy,e]
theorem take_less {α:Type} [DecidableEq α] {xs ys:List α} {n:Nat} {x y:α} (hx:xs[n]? = some x) (hy:ys[n]? = some y) (e:x≠y):decide (xs=ys)=false:=by
 apply decide_eq_false;rintro rfl;rw [hx] at hy;exact e (Option.some.inj hy)
theorem eqCells_any (xs ys:List Ce) (u v:Value) (w:World) (hl:xs.length≤1000) (hl2:ys.length≤1000) (hx:Sq fC w u xs) (hy:Sq fC w v ys):Calls Tryz.prog 92 #[u,v] w fun e w'=>e = .returned (.bool (decide (xs=ys)))∧Fr [] w w':=by
 obtain ⟨a,cap,rfl,-,hm,-⟩:=id hx
 obtain ⟨a2,cap2,rfl,-,hm2,-⟩:=id hy
 have hG:=ceGuard
 go_enter Tryz.func92,Tryz.ntmps92
 by_cases hll:xs.length=ys.length
 ·have hll':(xs.length:Int)=ys.length:=by omega
  have g:((xs.length:Int) != ys.length)=false:=by simp [hll]
  go_wp2_with fail
  go_loopw [13] (EqCAt w xs ys) (fun x _=>xs.length - (intOf x).toNat)
  case atStart=>exact ⟨0,Nat.zero_le _,rfl,Fr.refl _ _,rfl⟩
  case round =>
   obtain ⟨n,hn,rfl,Fw,hi⟩:=hrel
   by_cases hlt:n<xs.length
   ·have hlt2:n<ys.length:=by omega
    obtain ⟨x,hxn⟩:∃ x,xs[n]? = some x:=⟨xs[n],List.getElem?_eq_getElem hlt⟩
    obtain ⟨y,hyn⟩:∃ y,ys[n]? = some y:=⟨ys[n],List.getElem?_eq_getElem hlt2⟩
    obtain ⟨b,off,rfl,c0,c1,c2⟩:=ce_cells (hx.up Fw) hxn
    obtain ⟨b2,off2,rfl,d0,d1,d2⟩:=ce_cells (hy.up Fw) hyn
    have k0:=In.cell c0
    have k1:=In.cell c1
    have k2:=In.cell c2
    have l0:=In.cell d0
    have l1:=In.cell d1
    have l2:=In.cell d2
    have hne:=ce_neq x y
    obtain ⟨q,hg⟩:∃ q,decide (x≠y)=q:=⟨_,rfl⟩
    rw [hg] at hne
    have HG:=Lib.hid hg
    have HX:=Lib.hid hxn
    have HY:=Lib.hid hyn
    have HI:=Lib.hid hi
    clear c0 c1 c2 d0 d1 d2 hg hxn hyn hi
    go_wp2_with fail
    refine wi ?_
    repeat (go_big_quiet_step (fail))
    refine wpQuiet_nil ?_
    intro w1 F1
    clear k0 k1 k2 l0 l1 l2 hne hG
    cases q with
    | true =>
     go_wp2
     go_ret
     exact ⟨by rw [take_less HX.out HY.out (of_decide_eq_true HG.out)];rfl,Fw.trans F1⟩
    | false =>
     go_wp2
     go_roundw
     case rel=>exact ⟨n+1,by omega,by go_num,Fw.trans F1,take_more HI.out HX.out HY.out (by have:=HG.out;simpa using this)⟩
     case measure=>simp [intOf];omega
   ·obtain rfl:n=xs.length:=by omega
    have HI:=Lib.hid hi
    clear hi
    go_wp2
    go_ret
    exact ⟨by
     have:=HI.out
     rw [List.take_length,hll,List.take_length] at this
     rw [decide_eq_true this];rfl,Fw⟩
 ·have g:((xs.length:Int) != ys.length)=true:=by simp;omega
  go_wp2
  go_ret
  exact ⟨by rw [decide_eq_false (fun e=>hll (by rw [e]))];rfl,Fr.refl _ _⟩
theorem same_any (h k:Hd) (cs ds:List Ce) (u v:Value) (w:World) (hl:cs.length≤1000) (hl2:ds.length≤1000) (hu:ChIs w u h cs) (hv:ChIs w v k ds) :
  Calls Tryz.prog 44 #[u,v] w fun e w'=>e = .returned (.bool (decide (h=k∧cs=ds)))∧Fr [] w w':=by
 obtain ⟨lu,rfl,su⟩:=hu
 obtain ⟨lv,rfl,sv⟩:=hv
 have F0:=((Fr.refl [] w).alloc (.cells (chC h lu) 70)).alloc (.cells (chC k lv) 70)
 have o1:=(Ob.new w 70 (chC h lu)).alloc (.cells (chC k lv) 70)
 have o2:=Ob.newAt (sizeA w (.cells (chC h lu) 70)) 70 (chC k lv)
 have hG:=frGuard
 have hq:=fr_eql h k
 have hres:decide (h=k∧cs=ds)=(decide (h=k) && decide (cs=ds)):=by rw [Bool.decide_and]
 rw [hres]
 clear hres
 generalize decide (h=k)=q at hq ⊢
 unfold chV
 unfold frV at hq
 go_enter Tryz.func44,Tryz.ntmps44
 cases q with
 | false =>
  go_wp2_with fail
  unfold chC at F0 o1 o2
  generalize World.alloc (World.alloc w _) _=w1 at *
  obtain ⟨p0,p1,p2,p3,p4,p5,p6,p7,p8⟩:=ch_cells (lv:=lu) o1
  obtain ⟨q0,q1,q2,q3,q4,q5,q6,q7,q8⟩:=ch_cells (lv:=lv) o2
  have i0:=In.cell p0
  have j0:=In.cell q0
  have i1:=In.cell p1
  have j1:=In.cell q1
  have i2:=In.cell p2
  have j2:=In.cell q2
  have i3:=In.cell p3
  have j3:=In.cell q3
  have i4:=In.cell p4
  have j4:=In.cell q4
  have i5:=In.cell p5
  have j5:=In.cell q5
  have i6:=In.cell p6
  have j6:=In.cell q6
  have i7:=In.cell p7
  have j7:=In.cell q7
  have i8:=In.cell p8
  have j8:=In.cell q8
  clear p0 p1 p2 p3 p4 p5 p6 p7 p8 q0 q1 q2 q3 q4 q5 q6 q7 q8
  refine wi ?_
  repeat (go_big_quiet_step ((first | (go_at_call 91;exact Calls.in_ (frameOf_of _ _ _ _ _ _ _ _ _ _)))))
  refine wpQuiet_nil ?_
  intro w2 F2
  clear i0 i1 i2 i3 i4 i5 i6 i7 i8 j0 j1 j2 j3 j4 j5 j6 j7 j8 hq hG
  go_wp2
  go_ret
  exact ⟨rfl,F0.trans F2⟩
 | true =>
  go_wp2_with fail
  unfold chC at F0 o1 o2
  generalize World.alloc (World.alloc w _) _=w1 at *
  obtain ⟨p0,p1,p2,p3,p4,p5,p6,p7,p8⟩:=ch_cells (lv:=lu) o1
  obtain ⟨q0,q1,q2,q3,q4,q5,q6,q7,q8⟩:=ch_cells (lv:=lv) o2
  have i0:=In.cell p0
  have j0:=In.cell q0
  have i1:=In.cell p1
  have j1:=In.cell q1
  have i2:=In.cell p2
  have j2:=In.cell q2
  have i3:=In.cell p3
  have j3:=In.cell q3
  have i4:=In.cell p4
  have j4:=In.cell q4
  have i5:=In.cell p5
  have j5:=In.cell q5
  have i6:=In.cell p6
  have j6:=In.cell q6
  have i7:=In.cell p7
  have j7:=In.cell q7
  have i8:=In.cell p8
  have j8:=In.cell q8
  clear p0 p1 p2 p3 p4 p5 p6 p7 p8 q0 q1 q2 q3 q4 q5 q6 q7 q8
  have HS:=Lib.hid (And.intro (su.up F0) (sv.up F0))
  clear su sv
  refine wi ?_
  repeat (go_big_quiet_step ((first | (go_at_call 91;exact Calls.in_ (frameOf_of _ _ _ _ _ _ _ _ _ _)) | (go_at_call 92;exact Calls.in_ (eqCells_any cs ds _ _ _ hl hl2 (HS.out.1.up (In.fr _)) (HS.out.2.up (In.fr _)))))))
  refine wpQuiet_nil ?_
  intro w2 F2
  clear i0 i1 i2 i3 i4 i5 i6 i7 i8 j0 j1 j2 j3 j4 j5 j6 j7 j8 hq hG
  go_wp2
  go_ret
  exact ⟨rfl,F0.trans F2⟩
end Go.Proofs.YtilipdnchflkhaaGreatDoor.Vw
namespace Go.Proofs.YtilipdnchflkhaaGreatDoor.Mx
open Go.RowKit Go.Proofs.YtilipdnchflkhaaGreatDoor.Ar Go.Proofs.YtilipdnchflkhaaGreatDoor.Ref
theorem look_put (x:Lok) (it:It) (b:Nat) (w:World) (hl:x.l.length≤1000) (h:LokAt w b x) (hs:Sq fT w x.lv x.l) (hb:b∉x.lv.ownBlock.toList) :
  Calls Tryz.prog 75 #[.pointer (some ⟨b,0,none⟩),.agg #[.int .i64 it.k,.int .i64 it.v,.int .i64 it.d]] w fun e w'=>e = .returned (.tuple #[])∧(∃ lv',LokAt w' b { x with l:=putK x.l it,lv:=lv' } ∧ Sq fT w' lv' (putK x.l it)∧∀ g,g∈lv'.ownBlock.toList→w.heap.size≤g)∧Fr [b] w w':=by
 cases hN:itemN x.l it.k with
 | none=>rw [putK_none hN];exact put_none x it b w hN hl h hs hb
 | some i=>rw [putK_some hN];exact put_some x it i b w hN hl h hs hb
def Lok.skips (x:Lok):Bool:=decide (x.most<verW x.s) || (match itemN x.l x.k with | some i=>decide (verW x.s<(x.l.getD i ⟨0,0,0⟩).v) | none=>false)
def Lok.seven (x:Lok):Lok:=if x.skips=true then ({ x with line:=7 }:Lok).on else { x with line:=7 }
theorem look_seven (x:Lok) (hi:-1≤x.i∧x.i≤100) (b:Nat) (w:World) (hl:x.l.length≤1000) (h:LokAt w b x) (hs:Sq fT w x.lv x.l) (hb:b∉x.lv.ownBlock.toList) :
  Calls Tryz.prog 73 #[.pointer (some ⟨b,0,none⟩)] w fun e w'=>e = .returned (.tuple #[])∧LokAt w' b x.seven∧Fr [b] w w':=by
 generalize hy:x.seven=y
 have HY:=Lib.hid hy
 clear hy
 obtain ⟨a,cap,hlv,hcap,hmax,-⟩:=id hs
 obtain ⟨c0,c1,c2,c3,c4,c5,c6,c7,c8,c9,c10,c11,c12,c13,c14⟩:=lok_cells h
 have z:=h.frozen
 have hit:=item_any x x.k b w hl h hs
 rw [hlv] at c14
 go_enter Tryz.func73,Tryz.ntmps73
 go_wp2_with fail
 refine (ver_any _ _).mono ?_;rintro e _ ⟨rfl,rfl⟩
 generalize hver:verW x.s=ver at *
 go_wp2_with fail
 refine hit.mono ?_;rintro e _ ⟨rfl,rfl⟩
 clear hit
 have h7:LokAt (w.setCell ⟨b,8,none⟩ (.int .i64 7)) b { x with line:=7 }:=Ob.set h (i:=8) (.int .i64 7)
 have F7:Fr [b] w (w.setCell ⟨b,8,none⟩ (.int .i64 7)):=Fr.setCell (b:=b) (i:=8) _ (by simp)
 have hnx:=look_on { x with line:=7 } hi b _ h7
 have HX:=Lib.hid hnx
 clear hnx
 by_cases e1:x.most<ver
 ·have hn:y=({ x with line:=7 }:Lok).on:=by rw [← HY.out];unfold Lok.seven Lok.skips;rw [hver];simp [e1]
  subst hn
  have g1:decide (ver>x.most)=true:=by simpa using e1
  have HV:=Lib.hid hver
  clear hver e1 h hs h7
  generalize itemI x.l x.k=ii at *
  go_wp2_with fail
  refine HX.out.mono ?_;rintro e w5 ⟨rfl,h5,F5⟩
  go_wp2_with fail
  go_end0
  exact ⟨rfl,h5,F7.trans F5⟩
 ·have g1:decide (ver>x.most)=false:=by simpa using e1
  cases hN:itemN x.l x.k with
  | none =>
   have hn:y = { x with line:=7 }:=by rw [← HY.out];unfold Lok.seven Lok.skips;rw [hver,hN];simp [e1]
   subst hn
   rw [show itemI x.l x.k = -1 by unfold itemI;rw [hN]]
   have HV:=Lib.hid (And.intro hver hN)
   clear hver hN e1 h hs
   go_wp2_with fail
   go_end0
   exact ⟨rfl,h7,F7⟩
  | some i =>
   have hil:=itemN_lt hN
   have hgx:x.l[i]? = some x.l[i]:=List.getElem?_eq_getElem hil
   have hgd:x.l.getD i ⟨0,0,0⟩=x.l[i]:=by rw [List.getD_eq_getElem?_getD,hgx];rfl
   rw [hlv] at hs
   obtain ⟨g,off,rfl,d0,d1,d2⟩:=it_cells hs hgx
   rw [show itemI x.l x.k=(i:Int) by unfold itemI;rw [hN]]
   generalize hxi:x.l[i]=xi at *
   have gi:decide ((i:Int)≥0)=true:=by simp
   have hgb:g≠b:=by intro e;rw [hlv] at hb;exact hb (by simp [Value.ownBlock,e])
   by_cases e2:ver<xi.v
   ·have hn:y=({ x with line:=7 }:Lok).on:=by rw [← HY.out];unfold Lok.seven Lok.skips;rw [hver,hN];simp only [hgd];simp [e2]
    subst hn
    have g2:decide (ver<xi.v)=true:=by simpa using e2
    have HV:=Lib.hid (And.intro hver (And.intro hN (And.intro hgx hgd)))
    have HXI:=Lib.hid hxi
    clear hver hN hgx hgd hxi e1 e2 h hs h7
    go_wp2_with fail
    refine HX.out.mono ?_;rintro e w5 ⟨rfl,h5,F5⟩
    go_wp2_with fail
    go_end0
    exact ⟨rfl,h5,F7.trans F5⟩
   ·have hn:y = { x with line:=7 }:=by rw [← HY.out];unfold Lok.seven Lok.skips;rw [hver,hN];simp only [hgd];simp [e1,e2]
    subst hn
    have g2:decide (ver<xi.v)=false:=by simpa using e2
    have HV:=Lib.hid (And.intro hver (And.intro hN (And.intro hgx hgd)))
    have HXI:=Lib.hid hxi
    clear hver hN hgx hgd hxi e1 e2 h hs
    go_wp2_with fail
    go_end0
    exact ⟨rfl,h7,F7⟩
end Go.Proofs.YtilipdnchflkhaaGreatDoor.Mx
namespace Go.Proofs.YtilipdnchflkhaaGreatDoor.Mp
open Go.RowKit Go.Proofs.YtilipdnchflkhaaGreatDoor.Ar
structure An where
 code:Int
 found:Bool
 val:Int
 writer:Int
 version:Int
 pairs:List (Int×Int)
def ansv (a:An) (pv:Value):Value:=.agg #[.int .i64 a.code,.bool a.found,.int .i64 a.val,.int .i64 a.writer,.int .i64 a.version,pv]
end Go.Proofs.YtilipdnchflkhaaGreatDoor.Mp
namespace Go.Proofs.YtilipdnchflkhaaGreatDoor.Vw
open Go.RowKit Go.Proofs.YtilipdnchflkhaaGreatDoor.Ar Go.Proofs.YtilipdnchflkhaaGreatDoor.Mx
def thereB (n:Nat) (c at_:Int):Bool:=decide (0≤at_) && decide (at_≤n - (7+3 * c))
def headOf (l:List Int) (a:Int):Hd:=⟨a,peek l a,peek l (a+1),peek l (a+2),peek l (a+3),peek l (a+4),peek l (a+5),peek l (a+6)⟩
def cellOf (l:List Int) (a:Int) (i:Nat):Ce:=⟨peek l (a+7+3 * i),peek l (a+7+3 * i+1),peek l (a+7+3 * i+2)⟩
def cellsOf (l:List Int) (a:Int) (n:Nat):List Ce:=(List.range n).map (cellOf l a)
theorem there_any (t c wd v a:Int) (p q:Nat) (s:St) (w:World) (h1:1≤c) (h2:c≤16) (h3:c≤s.l.length) (h4:s.l.length≤20000) (hA:Ar w p q s) :
  Calls Tryz.prog 87 #[.agg #[.int .i64 t,.int .i64 c,.int .i64 wd,.int .i64 v],.pointer (some ⟨p,0,none⟩),.int .i64 a] w fun e w'=>e = .returned (.bool (thereB s.l.length c a))∧Fr [] w w':=by
 have F0:=(Fr.refl [] w).alloc (.cells #[.int .i64 t,.int .i64 c,.int .i64 wd,.int .i64 v] 23)
 obtain ⟨c0,c1,c2,c3⟩:=Pl.cells4 (Go.heap_alloc_new w (.cells #[.int .i64 t,.int .i64 c,.int .i64 wd,.int .i64 v] 23))
 have A0:=hA.kept F0
 have g1:decide (c≥0)=true:=by simp;omega
 have g2:decide (c≤(s.l.length:Int))=true:=by simp;omega
 have hr:thereB s.l.length c a=(decide (0≤a) && decide (a≤(s.l.length:Int) - (7+3 * c))):=rfl
 have k0:=In.cell c0
 have k1:=In.cell c1
 have k2:=In.cell c2
 have k3:=In.cell c3
 clear c0 c1 c2 c3
 by_cases g3:0≤a
 ·have g3':decide (a≥0)=true:=by simpa using g3
  rw [hr,show decide (0≤a)=true from g3',Bool.true_and]
  clear hr
  go_enter Tryz.func87,Tryz.ntmps87
  go_wp2_with fail
  refine wi ?_
  repeat (go_big_quiet_step ((first | (go_at_call 36;exact Calls.in_same (len_any _ p q s (A0.kept (In.fr _) (by simp) (by simp)))) | (go_at_call 127;exact Calls.in_ (Pl.size_any t c wd v h1 h2 _)))))
  refine wpQuiet_nil ?_
  intro w2 F2
  clear k0 k1 k2 k3 g1 g2
  go_wp2
  go_ret
  exact ⟨rfl,F0.trans F2⟩
 ·have g3':decide (a≥0)=false:=by simpa using g3
  rw [hr,show decide (0≤a)=false from g3',Bool.false_and]
  clear hr
  go_enter Tryz.func87,Tryz.ntmps87
  go_wp2_with fail
  refine wi ?_
  repeat (go_big_quiet_step ((first | (go_at_call 36;exact Calls.in_same (len_any _ p q s (A0.kept (In.fr _) (by simp) (by simp)))) | (go_at_call 127;exact Calls.in_ (Pl.size_any t c wd v h1 h2 _)))))
  refine wpQuiet_nil ?_
  intro w2 F2
  clear k0 k1 k2 k3 g1 g2
  go_wp2
  go_ret
  exact ⟨rfl,F0.trans F2⟩
theorem set3 {cur:Array Value} {i:Nat} (x y z:Value) (h:3 * i+3≤cur.size):(((cur.setIfInBounds (i * 3) x).setIfInBounds (i * 3+1) y).setIfInBounds (i * 3+2) z).toList.take (3 * (i+1))=cur.toList.take (3 * i)++[x,y,z]:=by
 obtain ⟨l⟩:=cur
 simp only [Array.toList_setIfInBounds] at h ⊢
 simp only [List.size_toArray] at h
 apply List.ext_getElem?
 intro j
 simp only [List.getElem?_take,List.getElem?_append,List.getElem?_set,List.length_take,List.length_set]
 by_cases h1:j<3 * i
 ·rw [if_pos (by omega),if_neg (by omega),if_neg (by omega),if_neg (by omega),if_pos (by omega),if_pos h1]
 ·rw [if_neg (show ¬ j<min (3 * i) l.length by omega)]
  by_cases h2:j<3 * (i+1)
  ·rw [if_pos h2]
   have h3:j=i * 3∨j=i * 3+1∨j=i * 3+2:=by omega
   have hm:min (3 * i) l.length=i * 3:=by omega
   rw [hm]
   rcases h3 with rfl | rfl | rfl
   ·rw [if_neg (by omega),if_neg (by omega),if_pos rfl,if_pos (by omega)];simp
   ·rw [if_neg (by omega),if_pos rfl,if_pos (by omega),show i * 3+1 - i * 3=1 by omega];rfl
   ·rw [if_pos rfl,if_pos (by omega),show i * 3+2 - i * 3=2 by omega];rfl
  ·rw [if_neg h2,show min (3 * i) l.length=3 * i by omega]
   have:∃ k,j - 3 * i=k+3:=⟨j - 3 * i - 3,by omega⟩
   obtain ⟨k,hk⟩:=this
   rw [hk];rfl
theorem cellsOf_succ (l:List Int) (a:Int) (n:Nat):(cellsOf l a (n+1)).flatMap fC=(cellsOf l a n).flatMap fC++fC (cellOf l a n):=by
 unfold cellsOf;rw [List.range_succ,List.map_append,List.flatMap_append];simp
def CsAt (w:World) (l:List Int) (a:Int) (b n:Nat) (x:Value) (wr:World):Prop:=∃ i cur,i≤n∧x = .int .i64 (i:Nat)∧Ob wr b 131 cur∧cur.size=3 * n∧cur.toList.take (3 * i)=(cellsOf l a i).flatMap fC∧Fr [] w wr
def CsMade (w:World) (cs:List Ce) (e:Ending) (w':World):Prop:=∃ b,e = .returned (.slice (some ⟨b,0,none⟩) cs.length cs.length)∧w.heap.size≤b∧Ob w' b 131 (cs.flatMap fC).toArray∧Fr [] w w'
theorem cells_any (t wd v a:Int) (n p q:Nat) (s:St) (w:World) (h1:1≤n) (h2:n≤16) (h3:0≤a) (h4:a≤20000) (hA:Ar w p q s) :
  Calls Tryz.prog 88 #[.agg #[.int .i64 t,.int .i64 n,.int .i64 wd,.int .i64 v],.pointer (some ⟨p,0,none⟩),.int .i64 a] w (CsMade w (cellsOf s.l a n)):=by
 have hlen:(cellsOf s.l a n).length=n:=by unfold cellsOf;simp
 have F0:=(Fr.refl [] w).alloc (.cells #[.int .i64 t,.int .i64 n,.int .i64 wd,.int .i64 v] 23)
 obtain ⟨c0,c1,c2,c3⟩:=Pl.cells4 (Go.heap_alloc_new w (.cells #[.int .i64 t,.int .i64 n,.int .i64 wd,.int .i64 v] 23))
 obtain ⟨i0,h0,hz0,hz1,hz2⟩:=info_parts ceI
 go_enter Tryz.func88,Tryz.ntmps88
 go_wp2_with (at_make;refine wpList_make_full _ rfl _ _ 68 rfl 0 131 i0 (.agg #[.int .i64 0,.int .i64 0,.int .i64 0]) 3 Tryz.underlying68 h0 hz0 hz1 _ _ _ _ n rfl rfl rfl rfl (by rw [hz2];omega) (by unfold maxLen;omega) (Nat.zero_le _) ?_;intro w1 hown hg)
 have G1:=F0.trans (Fr.grown hg)
 obtain ⟨-,hown⟩:=hown
 rcases hown with ⟨e1,-⟩ | ⟨g,cap,cur,e1,-,hh,hc1,hc2,hs,-⟩
 ·simp at e1
 simp only [Value.slice.injEq,Option.some.injEq,Addr.mk.injEq] at e1
 obtain ⟨⟨rfl,-⟩,-,rfl⟩:=e1
 rw [sizeA] at hh
 clear c0 c1 c2 c3 hg F0
 have o1:Ob w1 (w.heap.size+1) 131 cur:=hh
 clear hh
 have hlen':=Lib.hid hlen
 have hs':=Lib.hid hs
 clear hlen hs
 go_loopw [15] (CsAt w s.l a (w.heap.size+1) n) (fun x _=>n - (intOf x).toNat)
 case atStart=>exact ⟨0,cur,Nat.zero_le _,rfl,o1,by have:=hs'.out;omega,by simp [cellsOf],G1⟩
 case round =>
  obtain ⟨i,cur,hi,rfl,o,hsz,htk,F⟩:=hrel
  by_cases hlt:i<n
  ·have HT:=Lib.hid (And.intro hsz htk)
   clear hsz htk hs' o1
   have A:=hA.kept F
   have z:=o.frozen
   go_wp2_with fail
   refine (Pl.state_any a i h3 (by omega) (by omega) (by omega) _).mono ?_;rintro e _ ⟨rfl,rfl⟩
   go_wp2_with fail
   refine (peek_any _ p q s _ A).mono ?_;rintro e _ ⟨rfl,rfl⟩
   go_wp2_with fail
   refine (peek_any _ p q s _ A).mono ?_;rintro e _ ⟨rfl,rfl⟩
   go_wp2_with fail
   refine (peek_any _ p q s _ A).mono ?_;rintro e _ ⟨rfl,rfl⟩
   have HC:cellOf s.l a i=⟨peek s.l (a+7+3 * i),peek s.l (a+7+3 * i+1),peek s.l (a+7+3 * i+2)⟩:=rfl
   generalize peek s.l (a+7+3 * i)=x at *
   generalize peek s.l (a+7+3 * i+1)=y at *
   generalize peek s.l (a+7+3 * i+2)=u at *
   have HC':=Lib.hid HC
   clear HC
   have q0:∃ v0,wr.cell? ⟨w.heap.size+1,i * 3,none⟩=some v0:=⟨cur[i * 3]'(by have:=HT.out.1;omega),o.cell (Array.getElem?_eq_getElem _)⟩
   have q1:∃ v0,wr.cell? ⟨w.heap.size+1,i * 3+1,none⟩=some v0:=⟨cur[i * 3+1]'(by have:=HT.out.1;omega),o.cell (Array.getElem?_eq_getElem _)⟩
   have q2:∃ v0,wr.cell? ⟨w.heap.size+1,i * 3+2,none⟩=some v0:=⟨cur[i * 3+2]'(by have:=HT.out.1;omega),o.cell (Array.getElem?_eq_getElem _)⟩
   obtain ⟨v0,q0⟩:=q0
   obtain ⟨v1,q1⟩:=q1
   obtain ⟨v2,q2⟩:=q2
   go_wp2_with fail
   go_roundw
   case rel =>
    refine ⟨i+1,_,by omega,by go_num,((o.set (i:=i * 3) (.int .i64 x)).set (i:=i * 3+1) (.int .i64 y)).set (i:=i * 3+2) (.int .i64 u),by have:=HT.out.1;simpa using this,?_,?_⟩
    ·rw [set3 _ _ _ (by have:=HT.out.1;omega),HT.out.2,cellsOf_succ,HC'.out];rfl
    ·exact F.own (((Fr.setCell (b:=w.heap.size+1) _ (List.mem_singleton.2 rfl)).setCell' _ (List.mem_singleton.2 rfl)).setCell' _ (List.mem_singleton.2 rfl)) (by simp)
   case measure=>simp [intOf];omega
  ·obtain rfl:i=n:=by omega
   have HT:=Lib.hid (And.intro hsz htk)
   clear hsz htk hs' o1
   go_wp2
   go_ret
   refine ⟨w.heap.size+1,by rw [hlen'.out];rfl,by omega,?_,F⟩
   have e:=HT.out.2
   rw [List.take_of_length_le (by have:=HT.out.1;simp;omega)] at e
   rw [← e];exact o
theorem sets9 (x0 x1 x2 x3 x4 x5 x6 x7 x8 y0 y1 y2 y3 y4 y5 y6 y7 y8:Value):((((((((((#[x0,x1,x2,x3,x4,x5,x6,x7,x8]:Array Value).setIfInBounds 0 y0).setIfInBounds 1 y1).setIfInBounds 2 y2).setIfInBounds 3 y3).setIfInBounds 4 y4).setIfInBounds 5 y5).setIfInBounds 6 y6).setIfInBounds 7 y7).setIfInBounds 8 y8) = #[y0,y1,y2,y3,y4,y5,y6,y7,y8]:=by kernel_rfl
def ChMade (w:World) (h:Hd) (cs:List Ce) (e:Ending) (w':World):Prop:=∃ b,e = .returned (.tuple #[chV h (.slice (some ⟨b,0,none⟩) cs.length cs.length),.nilIface])∧w.heap.size≤b∧Ob w' b 131 (cs.flatMap fC).toArray∧Fr [] w w'
theorem chunk_yes (t wd v a:Int) (n p q:Nat) (s:St) (w:World) (h1:1≤n) (h2:n≤16) (h3:n≤s.l.length) (h4:s.l.length≤20000) (hA:Ar w p q s) (ht:thereB s.l.length n a=true) :
  Calls Tryz.prog 40 #[.agg #[.int .i64 t,.int .i64 n,.int .i64 wd,.int .i64 v],.pointer (some ⟨p,0,none⟩),.int .i64 a] w (ChMade w (headOf s.l a) (cellsOf s.l a n)):=by
 have hlen:(cellsOf s.l a n).length=n:=by unfold cellsOf;simp
 have ha:0≤a∧a≤(s.l.length:Int) - (7+3 * n):=by unfold thereB at ht;simpa using ht
 have F0:=((Fr.refl [] w).alloc (.cells #[.int .i64 t,.int .i64 n,.int .i64 wd,.int .i64 v] 23))
 have o0:=Ob.new w 23 #[.int .i64 t,.int .i64 n,.int .i64 wd,.int .i64 v]
 go_enter Tryz.func40,Tryz.ntmps40
 have z0:Value:=.agg #[.int .i64 0,.int .i64 0,.int .i64 0,.int .i64 0,.int .i64 0,.int .i64 0,.int .i64 0,.int .i64 0,.slice none 0 0]
 have o1:=Ob.newAt (sizeA w (.cells #[.int .i64 t,.int .i64 n,.int .i64 wd,.int .i64 v] 23)) 70 #[.int .i64 0,.int .i64 0,.int .i64 0,.int .i64 0,.int .i64 0,.int .i64 0,.int .i64 0,.int .i64 0,.slice none 0 0]
 have F1:=F0.alloc (.cells #[.int .i64 0,.int .i64 0,.int .i64 0,.int .i64 0,.int .i64 0,.int .i64 0,.int .i64 0,.int .i64 0,.slice none 0 0] 70)
 have o2:=o0.alloc (.cells #[.int .i64 0,.int .i64 0,.int .i64 0,.int .i64 0,.int .i64 0,.int .i64 0,.int .i64 0,.int .i64 0,.slice none 0 0] 70)
 clear F0 o0 z0
 go_wp2_with fail
 generalize World.alloc (World.alloc w _) _=w1 at *
 refine (there_any t n wd v a p q s _ (by omega) (by omega) (by omega) h4 (hA.kept F1)).mono ?_;rintro e w2 ⟨rfl,F2⟩
 rw [ht]
 clear ht
 have A2:=hA.kept (F1.trans F2) (by simp) (by simp)
 replace o1:=o1.up F2
 replace o2:=o2.up F2
 replace F1:=F1.trans F2
 have hpq:=hA.lt
 clear F2 hA
 go_wp2_with fail
 have hne:w.heap.size≠w.heap.size+1:=by omega
 refine wp_region_env (by kernel_rfl) [w.heap.size+1] (fun w3 F3=>?_)
 refine ep [true,true,true,true,true,true,true,true,true,true,true,true,true,true,true,true,true,true,true,true,true,true,true,true,true,true,true,true,true,true,true,true,false,false,false,false] 4 (F3.mono) ?_
 apply Exists.intro
 refine ⟨fun wf Ff=>?_,?_⟩
 ·have Af:=A2.kept Ff (by simp;omega) (by simp;omega)
  have of:=o2.kept Ff (by simp)
  have k0:=In.cell (of.cell (i:=0) rfl)
  have k1:=In.cell (of.cell (i:=1) rfl)
  have k2:=In.cell (of.cell (i:=2) rfl)
  have k3:=In.cell (of.cell (i:=3) rfl)
  clear of
  simp only [sel]
  repeat (go_big_quiet_step ((go_at_call 30;exact Calls.in_same (peek_any _ p q s _ (Af.kept (In.fr _) (by simp) (by simp))))))
  exact wpQuiet_nil rfl
 refine eo 32 (fun w4 F4=>?_)
 have E:=F3.trans F4
 clear F3 F4
 have A4:=A2.kept E
 replace o1:=o1.up E
 have G:=F1.trans E
 have hG:=G.size
 clear o2 A2
 go_wp2_with fail
 have hlt4:=o1.lt
 refine (cells_any t wd v a n p q s _ h1 h2 ha.1 (by omega) A4).mono ?_;rintro e w5 ⟨b,rfl,hb,ob,F5⟩
 rw [hlen]
 go_wp2_with fail
 replace o1:=o1.up F5
 have G5:=G.trans F5
 have E5:=E.trans F5
 clear A4 F5 G E
 refine nx_normal ⟨E5.mono,?_⟩
 refine eo 33 (fun w6 F6=>?_)
 replace o1:=o1.up F6
 replace ob:=ob.up F6
 replace G5:=G5.trans F6
 replace E5:=E5.trans F6
 clear F6
 go_wp2_with fail
 refine nx_normal ⟨E5.mono,?_⟩
 refine eo 34 (fun w7 F7=>?_)
 replace o1:=o1.up F7
 replace ob:=ob.up F7
 replace G5:=G5.trans F7
 replace E5:=E5.trans F7
 clear F7
 have z:=o1.frozen
 obtain ⟨q0,q1,q2,q3,q4,q5,q6,q7,q8⟩:=ch_cells (h:=⟨0,0,0,0,0,0,0,0⟩) (lv:=.slice none 0 0) o1
 have hsz1:w.heap.size+1<w7.heap.size:=o1.lt
 have hbne:b≠w.heap.size+1:=by omega
 have o8:=(Ob.set (Ob.set (Ob.set (Ob.set (Ob.set (Ob.set (Ob.set (Ob.set (Ob.set o1 (i:=0) (.int .i64 a)) (i:=1) (.int .i64 (peek s.l a))) (i:=2) (.int .i64 (peek s.l (a+1)))) (i:=3) (.int .i64 (peek s.l (a+2)))) (i:=4) (.int .i64 (peek s.l (a+3)))) (i:=5) (.int .i64 (peek s.l (a+4)))) (i:=6) (.int .i64 (peek s.l (a+5)))) (i:=7) (.int .i64 (peek s.l (a+6)))) (i:=8) (.slice (some ⟨b,0,none⟩) n n))
 have F8:Fr [w.heap.size+1] w7 (((((((((w7.setCell ⟨w.heap.size+1,0,none⟩ (.int .i64 a)).setCell ⟨w.heap.size+1,1,none⟩ (.int .i64 (peek s.l a))).setCell ⟨w.heap.size+1,2,none⟩ (.int .i64 (peek s.l (a+1)))).setCell ⟨w.heap.size+1,3,none⟩ (.int .i64 (peek s.l (a+2)))).setCell ⟨w.heap.size+1,4,none⟩ (.int .i64 (peek s.l (a+3)))).setCell ⟨w.heap.size+1,5,none⟩ (.int .i64 (peek s.l (a+4)))).setCell ⟨w.heap.size+1,6,none⟩ (.int .i64 (peek s.l (a+5)))).setCell ⟨w.heap.size+1,7,none⟩ (.int .i64 (peek s.l (a+6)))).setCell ⟨w.heap.size+1,8,none⟩ (.slice (some ⟨b,0,none⟩) n n)):=(Fr.setCell' (Fr.setCell' (Fr.setCell' (Fr.setCell' (Fr.setCell' (Fr.setCell' (Fr.setCell' (Fr.setCell' (Fr.setCell' (Fr.refl [w.heap.size+1] w7) (b:=w.heap.size+1) (i:=0) (.int .i64 a) (by simp)) (b:=w.heap.size+1) (i:=1) (.int .i64 (peek s.l a)) (by simp)) (b:=w.heap.size+1) (i:=2) (.int .i64 (peek s.l (a+1))) (by simp)) (b:=w.heap.size+1) (i:=3) (.int .i64 (peek s.l (a+2))) (by simp)) (b:=w.heap.size+1) (i:=4) (.int .i64 (peek s.l (a+3))) (by simp)) (b:=w.heap.size+1) (i:=5) (.int .i64 (peek s.l (a+4))) (by simp)) (b:=w.heap.size+1) (i:=6) (.int .i64 (peek s.l (a+5))) (by simp)) (b:=w.heap.size+1) (i:=7) (.int .i64 (peek s.l (a+6))) (by simp)) (b:=w.heap.size+1) (i:=8) (.slice (some ⟨b,0,none⟩) n n) (by simp))
 go_wp2_with fail
 generalize hW8:(((((((((w7.setCell ⟨w.heap.size+1,0,none⟩ (.int .i64 a)).setCell ⟨w.heap.size+1,1,none⟩ (.int .i64 (peek s.l a))).setCell ⟨w.heap.size+1,2,none⟩ (.int .i64 (peek s.l (a+1)))).setCell ⟨w.heap.size+1,3,none⟩ (.int .i64 (peek s.l (a+2)))).setCell ⟨w.heap.size+1,4,none⟩ (.int .i64 (peek s.l (a+3)))).setCell ⟨w.heap.size+1,5,none⟩ (.int .i64 (peek s.l (a+4)))).setCell ⟨w.heap.size+1,6,none⟩ (.int .i64 (peek s.l (a+5)))).setCell ⟨w.heap.size+1,7,none⟩ (.int .i64 (peek s.l (a+6)))).setCell ⟨w.heap.size+1,8,none⟩ (.slice (some ⟨b,0,none⟩) n n))=w8 at *
 rw [sets9] at o8
 replace o8:Ob w8 (w.heap.size+1) 70 (chC (headOf s.l a) (.slice (some ⟨b,0,none⟩) n n)):=o8
 have ob8:=ob.kept F8 (by simpa using hbne)
 have E8:=(E5.mono (T:=[w.heap.size+1]) (by simp)).trans F8
 have G8:=G5.own F8 (by simp)
 clear hW8 q0 q1 q2 q3 q4 q5 q6 q7 q8 z F8 ob E5 G5 o1
 refine nx_normal ⟨E8,?_⟩
 refine eo 35 (fun w9 F9=>?_)
 replace o8:=o8.up F9
 replace ob8:=ob8.up F9
 replace E8:=E8.then F9
 replace G8:=G8.trans F9
 clear F9
 go_wp2_with fail
 refine nx_normal ⟨E8,?_⟩
 refine env_done (by kernel_rfl) (fun w10 F10=>?_)
 replace o8:=o8.up F10
 replace ob8:=ob8.up F10
 replace G8:=G8.trans F10
 clear F10 E8
 go_wp2_with fail
 obtain ⟨q0,q1,q2,q3,q4,q5,q6,q7,q8⟩:=ch_cells o8
 refine bodyPost_ret (v:=.tuple #[chV (headOf s.l a) (.slice (some ⟨b,0,none⟩) n n),.nilIface]) ?_ rfl ?_
 ·simp [results,Tryz.results40,go_sem,q0,q1,q2,q3,q4,q5,q6,q7,q8,chV]
 ·exact ⟨b,by rw [hlen],by omega,ob8,G8⟩
end Go.Proofs.YtilipdnchflkhaaGreatDoor.Vw
