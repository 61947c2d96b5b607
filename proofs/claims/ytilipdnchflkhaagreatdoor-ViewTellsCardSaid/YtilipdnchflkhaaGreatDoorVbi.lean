/- Texts that this proof leans on, one behind the other: Sans. -/
import Derived.Test.YtilipdnchflkhaaGreatDoorVat
import Derived.Test.YtilipdnchflkhaaGreatDoorVay
import Derived.Test.YtilipdnchflkhaaGreatDoorVbh
set_option linter.unusedVariables false
set_option linter.unusedSimpArgs false
set_option maxRecDepth 100000
set_option maxHeartbeats 12800000
namespace Go.Proofs.YtilipdnchflkhaaGreatDoor.Mx
open Go.RowKit Go.Proofs.YtilipdnchflkhaaGreatDoor.Ar Go.Proofs.YtilipdnchflkhaaGreatDoor.Ref Go.Proofs.YtilipdnchflkhaaGreatDoor.Mp
theorem pqI:(Tryz.prog.info? 242).map (fun i=>(i.zero,i.size,i.bytes))=some (some (.agg #[.int .i64 0,.int .i64 0]),2,16):=by kernel_rfl
theorem pairsT_more {l:List It} {i:Nat} {y:It} (hy:l[i]? = some y):pairsT (l.take (i+1))=pairsT (l.take i)++(if 0≤valW y.d then [(y.k,valW y.d)] else []):=by
 unfold pairsT
 rw [List.take_add_one,hy,Option.toList_some,List.filterMap_append]
 congr 1
 by_cases h:0≤valW y.d
 ·simp [h]
 ·simp [h]
theorem pairsT_len (l:List It):(pairsT l).length≤l.length:=List.length_filterMap_le _ _
def PrAt (w:World) (l:List It) (bx br:Nat) (ver:Int) (u:Value) (wr:World):Prop:=∃ (i:Nat) (pv:Value),i≤l.length∧u = .int .i64 (i:Nat)∧Ob wr bx 187 #[.int .i64 0,.bool false,.int .i64 0,.int .i64 (-1),.int .i64 ver,pv]∧Ob wr br 187 An0∧wr.ownsRow w.heap.size 242 2 pv (pairsT (l.take i)).length ((pairsT (l.take i)).flatMap fQ)∧Fr [] w wr
theorem scanAnswer_any (x:Sn) (hl:x.items.length≤900000) (B:List Nat) (b:Nat) (w:World) (h:SnIn w B b x) :
  Calls Tryz.prog 148 #[.pointer (some ⟨b,0,none⟩)] w fun e w'=>(∃ pv,e = .returned (ansv x.answer pv)∧w'.ownsRow w.heap.size 242 2 pv x.answer.pairs.length (x.answer.pairs.flatMap fQ))∧Fr [] w w':=by
 obtain ⟨bk,wp,lp,iv,Bw,Bl,hp,rfl⟩:=h.pt
 clear h
 have F0:=(Fr.refl [] w).alloc (.cells An0 187)
 have oa:=Ob.new w 187 An0
 have h1:=hp.re F0 (by simp) (Ob.up hp.o F0) rfl rfl rfl rfl
 have hbk:=Ob.lt hp.k
 have hb:=Ob.lt hp.o
 unfold An0 at F0 oa h1
 obtain ⟨c0,c1,c2,c3,c4,c5,c6,c7,c8,c9,c10,c11,c12,c13,c14⟩:=sn_cells h1.o
 have z:=oa.frozen
 obtain ⟨q0,q1,q2,q3,q4,q5⟩:=cells6 oa
 by_cases h0:x.line=0
 ·have g1:(x.line != 0)=false:=by simpa using h0
  obtain ⟨y0,y1,y2,y3,y4,y5,y6,y7,y8,y9⟩:=km_cells h1.k
  by_cases he:x.k.e=0
  ·have g2:(x.k.e != 0)=false:=by simpa using he
   have HA:=Lib.hid (show x.answer=⟨0,false,0,-1,x.k.version,pairsT x.items⟩ by unfold Sn.answer;rw [if_neg (by simpa using h0),if_neg (by simpa using he)])
   clear h0 he
   go_enter Tryz.func148,Tryz.ntmps148
   go_wp2_with fail
   generalize hw1:World.alloc w _=w1 at *
   have hs1:w1.heap.size=w.heap.size+1:=by rw [← hw1];exact sizeA _ _
   have F1:=(Fr.refl [] w1).alloc (.cells #[.int .i64 0,.bool false,.int .i64 0,.int .i64 (-1),.int .i64 x.k.version,.slice none 0 0] 187)
   have ox:=Ob.newAt hs1 187 #[.int .i64 0,.bool false,.int .i64 0,.int .i64 (-1),.int .i64 x.k.version,.slice none 0 0]
   have oa2:=oa.up F1
   have G0:=F0.trans F1
   generalize hw2:World.alloc w1 _=w2 at *
   obtain ⟨ai,ci,rfl,hci,hmi,-⟩:=id hp.s
   have hiv:=hp.g
   have HX:=Lib.hid (show w.heap.size+1≥w.heap.size from by omega)
   have HS1:=Lib.hid hs1
   generalize hbx:w.heap.size+1=bx at *
   have HBX:=Lib.hid hbx
   obtain ⟨br,hbr⟩:∃ br,br=w.heap.size:=⟨_,rfl⟩
   rw [← hbr] at oa2 ⊢
   have HBR:=Lib.hid hbr
   have bxr:¬ b=bx∧¬ br=bx:=by omega
   clear c0 c1 c2 c3 c4 c5 c6 c7 c8 c9 c10 c11 c12 c13 c14 y0 y1 y2 y3 y4 y5 y6 y7 y8 y9 q0 q1 q2 q3 q4 q5 z hbr hbx hs1 hw1 hw2 F0 F1 h1 oa
   go_loopw [4] (PrAt w x.items bx br x.k.version) (fun u _=>x.items.length - (intOf u).toNat)
   case atStart=>exact ⟨0,.slice none 0 0,by omega,rfl,ox,oa2,⟨rfl,.inl ⟨rfl,rfl⟩⟩,G0⟩
   case round =>
    obtain ⟨i,pv,hi,rfl,hox,hoa,hr,F⟩:=hrel
    have hS:=Ob.up hp.o F
    obtain ⟨c0,c1,c2,c3,c4,c5,c6,c7,c8,c9,c10,c11,c12,c13,c14⟩:=sn_cells hS
    have hlen:=pairsT_len (x.items.take i)
    have hlt2:(x.items.take i).length≤i:=List.length_take_le _ _
    by_cases hlt:i<x.items.length
    ·have HI2:=Lib.hid (show i+1≤x.items.length∧x.items.length - (i+1)<x.items.length - i by omega)
     have hltz:(i:Int)<(x.items.length:Int):=by omega
     have hi0:(0:Int)≤(i:Int):=by omega
     obtain ⟨y,hy⟩:∃ y,x.items[i]? = some y:=⟨x.items[i],List.getElem?_eq_getElem hlt⟩
     have HM:=Lib.hid (pairsT_more hy)
     have hsq:=hp.s.up F
     obtain ⟨gi,oi,rfl,y0,y1,y2⟩:=it_cells hsq hy
     obtain ⟨T1,hT1⟩:∃ T1,T1=pairsT (x.items.take i):=⟨_,rfl⟩
     rw [← hT1] at hr hlen
     have HT1:=Lib.hid hT1
     clear hT1
     obtain ⟨ap,cp,rfl,hcp,hmp,-⟩:=id (Sq.own (f:=fQ) hr)
     obtain ⟨q0,q1,q2,q3,q4,q5⟩:=cells6 hox
     go_wp2_with fail
     refine (val_any y.d wr).mono ?_;rintro e _ ⟨rfl,rfl⟩
     generalize hv:valW y.d=v at *
     have HV:=Lib.hid hv
     clear hv
     by_cases hv0:0≤v
     ·have g3:decide (v≥0)=true:=by simpa using hv0
      have HV0:=Lib.hid hv0
      clear hv0
      have nb:=row_ne hr hS (by decide)
      have nx:=row_ne hr hox (by decide)
      have nr:=row_ne hr hoa (by decide)
      have ni:∀ k,k=gi→k∉(Value.slice ap T1.length cp).ownBlock.toList:=by
       intro k hk hi2
       subst hk
       have h1:=row_base hr _ hi2
       have h2:=hiv k (by simp [Value.ownBlock])
       omega
      go_wp2_with fail
      refine wp_region_free (by kernel_rfl) ?_
      refine any_envL (Value.slice ap T1.length cp).ownBlock.toList wr #[true,true,true,true,true,true,true,true,true,true,true,true,true,true,false,false] 14 2 rfl ?_
      refine Ar.lp [true,true,true,true,true,true,true,true,true,true,true,true,false,false,false,false] 2 ((Fr.refl _ _).drew) ?_
      apply Exists.intro
      refine ⟨fun wf Ff=>?_,?_⟩
      ·have j14:=In.cell (Ff.cell c14 nb)
       have j0:=In.cell (Ff.cell y0 (ni _ rfl))
       obtain ⟨-,-,-,-,-,e5⟩:=cells6 (Ob.kept hox Ff nx)
       have j5:=In.cell e5
       clear e5
       simp only [sel]
       repeat (go_big_quiet_step (fail))
       exact wpQuiet_nil rfl
      refine lo 12 (fun w10 F10=>?_)
      have G:=((Fr.refl (Value.slice ap T1.length cp).ownBlock.toList wr).drew).then F10
      have r10:=row_keeps hr ((Fr.refl [] wr).drew.trans F10)
      clear F10
      go_wp2_with fail
      have F12:=(Fr.refl [] w10).alloc (.cells #[.int .i64 y.k,.int .i64 v] 242)
      have B12:=Go.heap_alloc_new w10 (.cells #[.int .i64 y.k,.int .i64 v] 242)
      have r12:=row_keeps r10 F12
      replace G:=G.then F12
      clear r10 F12
      refine nx_normal ⟨G,?_⟩
      refine lo 13 (fun w13 F13=>?_)
      have r22:=row_keeps r12 F13
      have B22:=F13.heap B12 (by simp)
      replace G:=G.then F13
      clear r12 B12 F13
      go_wp2_with (at_builtin;refine wpList_appSq fQ_lays rfl _ _ 185 rfl Tryz.underlying185 pqI rfl (B:=w.heap.size) _ T1 rfl r22 _ [(y.k,v)] rfl (Sq.block B22 rfl rfl (Nat.le_refl _) (by simp [maxLen])) (by simp;omega) (by decide) (Nat.le_trans F.size G.size) ?_;intro a23 c23 w23 r23 f23)
      replace G:=G.trans f23
      clear f23 r22 B22
      refine nx_normal ⟨G,?_⟩
      refine envL_tail (k:=14) rfl (by kernel_rfl) (fun w15 F15=>?_)
      have r26:=row_keeps r23 F15
      replace G:=G.then F15
      clear r23 F15
      have hox15:=Ob.kept hox G nx
      have hoa15:=Ob.kept hoa G nr
      have z:=hox15.frozen
      obtain ⟨q0,q1,q2,q3,q4,q5⟩:=cells6 hox15
      have en:(T1++[(y.k,v)]).length=T1.length+1:=by simp
      have r27:w15.ownsRow w.heap.size 242 2 (.slice a23 (T1.length+1) c23) (T1++[(y.k,v)]).length ((T1++[(y.k,v)]).flatMap fQ):=by rw [show (Value.slice a23 (T1++[(y.k,v)]).length c23)=Value.slice a23 (T1.length+1) c23 by rw [en]] at r26;exact r26
      have SF:Fr [bx] w15 (w15.setCell ⟨bx,5,none⟩ (.slice a23 (T1.length+1) c23)):=Fr.setCell _ (by simp)
      have HO16:=Lib.hid (Ob.set hox15 (i:=5) (.slice a23 (T1.length+1) c23))
      have HA16:=Lib.hid (Ob.other hoa15 bxr.2 (i:=5) (.slice a23 (T1.length+1) c23))
      have HR16:=Lib.hid (row_fr r27 SF (fun g hg hi2=>row_ne r27 hox15 (by decide) (by simp at hi2;subst hi2;rw [hg];simp)))
      have HF16:=Lib.hid ((F.own G (row_base hr)).own SF (by intro k hk;simp at hk;subst hk;have:=HBX.out;omega))
      clear r26 r27 SF en hox15 hoa15 G
      go_wp2_with fail
      go_roundw
      case rel=>exact ⟨i+1,_,HI2.out.1,by simp,HO16.out,HA16.out,by rw [HM.out,if_pos (by have:=HV0.out;omega),← HT1.out];exact HR16.out,HF16.out⟩
      case measure=>exact meas rfl HI2.out.2
     ·have g3:decide (v≥0)=false:=by simpa using hv0
      have HV0:=Lib.hid hv0
      clear hv0
      have HP:=Lib.hid (And.intro hox (And.intro hoa (And.intro hr F)))
      clear hox hoa hr F q0 q1 q2 q3 q4 q5 hS
      go_wp2_with fail
      go_roundw
      case rel=>exact ⟨i+1,_,HI2.out.1,by simp,HP.out.1,HP.out.2.1,by rw [HM.out,if_neg (by have:=HV0.out;omega),List.append_nil,← HT1.out];exact HP.out.2.2.1,HP.out.2.2.2⟩
      case measure=>exact meas rfl HI2.out.2
    ·obtain rfl:i=x.items.length:=by omega
     rw [List.take_length] at hr
     have HR:=Lib.hid hr
     obtain ⟨ap,cp,rfl,-,-⟩:=row_cell hr
     have z:=hoa.frozen
     unfold An0 at hoa
     obtain ⟨q0,q1,q2,q3,q4,q5⟩:=cells6 hox
     obtain ⟨t0,t1,t2,t3,t4,t5⟩:=cells6 hoa
     generalize pairsT x.items=T9 at *
     go_wp2_with fail
     have nr:=row_ne hr hoa (by decide)
     have o8:=st6_ob hoa (.int .i64 0) (.bool false) (.int .i64 0) (.int .i64 (-1)) (.int .i64 x.k.version) (.slice ap T9.length cp)
     have F8:=st6_fr (b:=br) (Fr.refl [br] wr) (List.mem_singleton.2 rfl) (.int .i64 0) (.bool false) (.int .i64 0) (.int .i64 (-1)) (.int .i64 x.k.version) (.slice ap T9.length cp)
     have r8:=row_fr hr F8 (fun g hg hi=>nr (by simp at hi;subst hi;rw [hg];simp))
     have F9:=F.own F8 (by have:=HBR.out;simp;omega)
     clear hox hoa hr F F8 q0 q1 q2 q3 q4 q5 t0 t1 t2 t3 t4 t5 c0 c1 c2 c3 c4 c5 c6 c7 c8 c9 c10 c11 c12 c13 c14 z nr
     generalize ((((((wr.setCell ⟨br,0,none⟩ (.int .i64 0)).setCell ⟨br,1,none⟩ (.bool false)).setCell ⟨br,2,none⟩ (.int .i64 0)).setCell ⟨br,3,none⟩ (.int .i64 (-1))).setCell ⟨br,4,none⟩ (.int .i64 x.k.version)).setCell ⟨br,5,none⟩ (.slice ap T9.length cp))=w8 at *
     obtain ⟨q0,q1,q2,q3,q4,q5⟩:=cells6 o8
     refine bodyPost_ret (v:=ansv ⟨0,false,0,-1,x.k.version,T9⟩ (.slice ap T9.length cp)) (by simp [results,Tryz.results148,go_sem,q0,q1,q2,q3,q4,q5,ansv,noAns]) rfl ⟨⟨_,by rw [HA.out],by rw [HA.out];exact r8⟩,F9⟩
  ·have g2:(x.k.e != 0)=true:=by simpa using he
   have HA:=Lib.hid (show x.answer=⟨x.k.e,false,0,0,0,[]⟩ by unfold Sn.answer;rw [if_neg (by simpa using h0),if_pos (by simpa using he)])
   clear h0 he
   go_enter Tryz.func148,Tryz.ntmps148
   go_wp2_with fail
   have o8:=Ob.new w 187 #[.int .i64 x.k.e,.bool false,.int .i64 0,.int .i64 0,.int .i64 0,.slice none 0 0]
   have F8:=(Fr.refl [] w).alloc (.cells #[.int .i64 x.k.e,.bool false,.int .i64 0,.int .i64 0,.int .i64 0,.slice none 0 0] 187)
   clear h1 F0 oa c0 c1 c2 c3 c4 c5 c6 c7 c8 c9 c10 c11 c12 c13 c14 z q0 q1 q2 q3 q4 q5 y0 y1 y2 y3 y4 y5 y6 y7 y8 y9
   generalize (w.alloc (.cells #[.int .i64 x.k.e,.bool false,.int .i64 0,.int .i64 0,.int .i64 0,.slice none 0 0] 187))=w8 at *
   generalize hbr:w.heap.size=br at *
   obtain ⟨q0,q1,q2,q3,q4,q5⟩:=cells6 o8
   refine bodyPost_ret (v:=ansv ⟨x.k.e,false,0,0,0,[]⟩ (.slice none 0 0)) (by simp [results,Tryz.results148,go_sem,q0,q1,q2,q3,q4,q5,ansv,noAns]) rfl ⟨⟨.slice none 0 0,by rw [HA.out],by rw [HA.out];exact ⟨rfl,.inl ⟨rfl,rfl⟩⟩⟩,F8⟩
 ·have g1:(x.line != 0)=true:=by simpa using h0
  have HA:=Lib.hid (show x.answer=noAns by unfold Sn.answer;rw [if_pos h0])
  clear h0
  go_enter Tryz.func148,Tryz.ntmps148
  go_wp2_with fail
  generalize hw1:World.alloc w _=w1 at *
  generalize hbr:w.heap.size=br at *
  obtain ⟨q0,q1,q2,q3,q4,q5⟩:=cells6 oa
  refine bodyPost_ret (v:=ansv noAns (.slice none 0 0)) (by simp [results,Tryz.results148,go_sem,q0,q1,q2,q3,q4,q5,ansv,noAns]) rfl ⟨⟨.slice none 0 0,by rw [HA.out],by rw [HA.out];exact ⟨rfl,.inl ⟨rfl,rfl⟩⟩⟩,F0⟩
end Go.Proofs.YtilipdnchflkhaaGreatDoor.Mx
