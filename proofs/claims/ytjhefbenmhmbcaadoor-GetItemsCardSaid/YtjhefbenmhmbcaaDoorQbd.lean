/- Texts that this proof leans on, one behind the other: Gt1. -/
import Derived.Test.YtjhefbenmhmbcaaDoorQaa
import Derived.Test.YtjhefbenmhmbcaaDoorQak
import Derived.Test.YtjhefbenmhmbcaaDoorQam
import Derived.Test.YtjhefbenmhmbcaaDoorQas
set_option linter.unusedVariables false
set_option linter.unusedSimpArgs false
set_option maxRecDepth 100000
set_option maxHeartbeats 12800000
namespace Go.Proofs.YtjhefbenmhmbcaaDoor.Ge
open Go.RowKit Go.Maps Go.Proofs.YtjhefbenmhmbcaaDoor.Ar Go.Proofs.YtjhefbenmhmbcaaDoor.Mx Go.Proofs.YtjhefbenmhmbcaaDoor.Mp Go.Proofs.YtjhefbenmhmbcaaDoor.Ch
def lastG (l:List It) (k:Int):Option It:=(l.filter (fun y=>y.k == k)).getLast?
theorem lastG_step {l:List It} {i:Nat} {x:It} (hx:l[i]? = some x):(fun k=>if k=x.k then some (itV x) else mapG (lastG (l.take i)) k)=mapG (lastG (l.take (i+1))):=by
 funext k
 unfold mapG lastG
 rw [List.take_add_one,hx,Option.toList_some,List.filter_append]
 by_cases h:k=x.k
 ·rw [if_pos h,List.filter_cons_of_pos (by simpa using h.symm)];simp
 ·rw [if_neg h,List.filter_cons_of_neg (by simpa using fun e=>h e.symm)];simp
theorem run_makeMapN (n:Int) (w:World):(Instr.makeMap 47 (some (.int .i64 n))).run Tryd.prog w = .ok (.map (some w.heap.size)) (w.alloc (.map #[] 0)):=by kernel_rfl
def BkAt (w:World) (bm:Nat) (l:List It) (x:Value) (wr:World):Prop:=∃ i:Nat,i≤l.length∧x = .int .i64 (i:Nat)∧GMap wr bm i (mapG (lastG (l.take i)))∧Fr [] w wr
theorem bykey_any (l:List It) (v:Value) (w:World) (hl:l.length≤1000) (hwf:∀ x,x∈l→(Lit.int .i64 x.k).wf=true) (h:Sq fT w v l) :
  Calls Tryd.prog 12 #[v] w fun e w'=>(∃ m,e = .returned (.map (some m))∧w.heap.size≤m∧GMap w' m l.length (mapG (lastG l)))∧Fr [] w w':=by
 obtain ⟨av,cv,rfl,hcv,hmv,-⟩:=id h
 have hmm:=run_makeMapN l.length
 have m0:=GMap.made w
 have HWF:=Lib.hid hwf
 clear hwf
 go_enter Tryd.func12,Tryd.ntmps12
 go_wp2_with fail
 clear hmm
 have F0:=(Fr.refl [] w).alloc (.map #[] 0)
 generalize (World.alloc w (.map #[] 0))=w1 at *
 have hbm:w.heap.size≤w.heap.size:=Nat.le_refl _
 generalize hbm2:w.heap.size=bm at m0 hbm ⊢
 have HBM:=Lib.hid hbm2
 clear hbm2
 go_loopw [11] (BkAt w bm l) (fun x _=>l.length - (match x with | .int _ z=>z.toNat | _=>0))
 case atStart=>exact ⟨0,by omega,rfl,m0,F0⟩
 case round =>
  obtain ⟨i,hi,rfl,hG,F⟩:=hrel
  by_cases hlt:i<l.length
  ·obtain ⟨x,hx⟩:∃ x,l[i]? = some x:=⟨l[i],List.getElem?_eq_getElem hlt⟩
   have hltz:(i:Int)<(l.length:Int):=by omega
   have HST:=Lib.hid (lastG_step hx)
   have hkw:=HWF.out x (List.mem_of_getElem? hx)
   obtain ⟨gs,os,rfl,x0,x1,x2⟩:=it_cells (h.up F) hx
   have E7:=(Fr.refl [] wr).alloc (.cells #[.int .i64 x.k,.int .i64 x.v,.int .i64 x.d] 26)
   obtain ⟨w8,r8,G8,F8⟩:=GMap.put (hG.up E7) Tryd.underlying47 (by unfold maxLen;omega) hkw (itV x)
   rw [HST.out] at G8
   have E8:=Lib.hid ((F.trans E7).own F8 (by simp;have:=HBM.out;omega))
   have HG:=Lib.hid G8
   unfold itV at r8
   have HI:=Lib.hid (And.intro hi hlt)
   clear hx hG F h E7 G8 F8 hkw hcv hmv hi hlt m0
   go_wp2_with fail
   exact ⟨⟨i+1,by have:=HI.out.2;omega,by simp,HG.out,E8.out⟩,by have:=HI.out.2;simp;omega⟩
  ·have hltz:¬ (i:Int)<(l.length:Int):=by omega
   have hie:i=l.length:=by omega
   subst hie
   rw [List.take_length] at hG
   have HG:=Lib.hid (And.intro hG F)
   clear hG F h hi hlt hcv hmv m0
   go_wp2_with fail
   go_ret
   exact ⟨⟨bm,rfl,by have:=HBM.out;omega,HG.out.1⟩,HG.out.2⟩
def ofA (o:Option It):An:=match o with
 | some y=>⟨0,decide (0≤valW y.d),max 0 (valW y.d),whoW y.d,0,[]⟩
 | none=>⟨0,false,0,-1,0,[]⟩
theorem dof_any (l:List It) (key:Int) (v:Value) (w:World) (hl:l.length≤1000) (hwf:∀ x,x∈l→(Lit.int .i64 x.k).wf=true) (hk:(Lit.int .i64 key).wf=true) (hd:∀ x,lastG l key=some x→0≤x.d∧x.d≤9223372036854775807) (h:Sq fT w v l) :
  Calls Tryd.prog 5 #[v,.int .i64 key] w fun e w'=>e = .returned (ansv (ofA (lastG l key)) (.slice none 0 0))∧Fr [] w w':=by
 have F0:=(Fr.refl [] w).alloc (.cells An0 30)
 have oa:=Ob.new w 30 An0
 have HB:=bykey_any l v (w.alloc (.cells An0 30)) hl hwf (h.up F0)
 have HBK:=Lib.hid HB
 have HD:=Lib.hid (And.intro hd hk)
 unfold An0 at F0 oa HBK
 clear hd hwf h HB hk
 go_enter Tryd.func5,Tryd.ntmps5
 go_wp2_with fail
 generalize hw1:World.alloc w _=w1 at *
 have hbr:w.heap.size<w1.heap.size:=oa.lt
 generalize hwsz:w.heap.size=br at oa hbr ⊢
 refine HBK.out.mono ?_;rintro e w2 ⟨⟨m,rfl,hm,G⟩,F2⟩
 have lk:=G.look Tryd.underlying47 (z:=zeroItV) (zeroIt w2) HD.out.2 true
 have o2:=oa.up F2
 have H2:=Lib.hid (F0.trans F2)
 have hmap:mapG (lastG l) key=(lastG l key).map itV:=rfl
 rw [hmap] at lk
 clear hmap G F0 F2 oa HBK hw1 hm
 cases hg:lastG l key with
 | none =>
  rw [hg] at lk
  simp only [if_true,Option.map_none,Option.getD_none,Option.isSome_none,zeroItV] at lk
  have E3:=(Fr.refl [] w2).alloc (.cells #[.int .i64 0,.int .i64 0,.int .i64 0] 26)
  have o3:=o2.up E3
  have hlt2:=o2.lt
  have H3:=Lib.hid (H2.out.trans E3)
  have z:=o3.frozen
  obtain ⟨q0,q1,q2,q3,q4,q5⟩:=Mx.cells6 o3
  have HZ:=Lib.hid (And.intro hwsz hg)
  clear hg E3 H2 hwsz hbr hlt2 o2
  go_wp2_with fail
  have o8:=st6_ob o3 (.int .i64 0) (.bool false) (.int .i64 0) (.int .i64 (-1)) (.int .i64 0) (.slice none 0 0)
  have F8:=st6_fr (b:=br) (Fr.refl [br] (w2.alloc (.cells #[.int .i64 0,.int .i64 0,.int .i64 0] 26))) (List.mem_singleton.2 rfl) (.int .i64 0) (.bool false) (.int .i64 0) (.int .i64 (-1)) (.int .i64 0) (.slice none 0 0)
  clear q0 q1 q2 q3 q4 q5 z
  obtain ⟨q0,q1,q2,q3,q4,q5⟩:=Mx.cells6 o8
  refine bodyPost_ret (v:=ansv ⟨0,false,0,-1,0,[]⟩ (.slice none 0 0)) (by simp [results,Tryd.results5,go_sem,q0,q1,q2,q3,q4,q5,ansv]) rfl ⟨by rw [HZ.out.2];rfl,H3.out.own F8 (by have:=HZ.out.1;simp;omega)⟩
 | some y =>
  rw [hg] at lk
  simp only [if_true,Option.map_some,Option.getD_some,Option.isSome_some,itV] at lk
  have hyd:=HD.out.1 y hg
  have E3:=(Fr.refl [] w2).alloc (.cells #[.int .i64 y.k,.int .i64 y.v,.int .i64 y.d] 26)
  have oi:=Ob.new w2 26 #[.int .i64 y.k,.int .i64 y.v,.int .i64 y.d]
  have o3:=o2.up E3
  have hlt2:=o2.lt
  have H3:=Lib.hid (H2.out.trans E3)
  have HZ:=Lib.hid (And.intro hwsz (And.intro hyd (And.intro hlt2 hg)))
  clear hg E3 H2 hwsz hbr hlt2 o2 hyd
  go_wp2_with fail
  have HLT:=Lib.hid (show br<w2.heap.size from HZ.out.2.2.1)
  have hb9:=oi.lt
  generalize World.alloc w2 _=w3 at *
  generalize hbi:w2.heap.size=bi at *
  have HBI:=Lib.hid (And.intro hbi hb9)
  clear hbi hb9 lk
  refine (Word.writer_any y.d _).mono ?_;rintro e w' ⟨rfl,he⟩;replace he:=he.symm;subst he
  have hu:Word.un y.d / 2097152=whoW y.d:=by have:=HZ.out.2.1;unfold Word.un whoW;omega
  rw [hu]
  generalize hwh:whoW y.d=wh at *
  have EA:=(Fr.refl [] w3).alloc (.cells #[.int .i64 0,.bool false,.int .i64 0,.int .i64 wh,.int .i64 0,.slice none 0 0] 30)
  have oA:=Ob.new w3 30 #[.int .i64 0,.bool false,.int .i64 0,.int .i64 wh,.int .i64 0,.slice none 0 0]
  have i2:=(oi.up EA).cell (i:=2) rfl
  have o4:=o3.up EA
  have H4:=Lib.hid (H3.out.trans EA)
  clear oi hu o3 EA H3
  go_wp2_with fail
  have hA3:=oA.lt
  generalize World.alloc w3 _=w4 at *
  generalize hba:w3.heap.size=ba at *
  refine (Word.val_any y.d _).mono ?_;rintro e w' ⟨rfl,he⟩;replace he:=he.symm;subst he
  rw [show y.d % 2097152 - 1=valW y.d from rfl]
  have hvb:-1≤valW y.d:=by unfold valW;omega
  have HV:=Lib.hid (And.intro hwh (And.intro hvb (And.intro hba hA3)))
  have HE:=Lib.hid (show ofA (lastG l key)=⟨0,decide (0≤valW y.d),max 0 (valW y.d),whoW y.d,0,[]⟩ by rw [HZ.out.2.2.2];rfl)
  generalize hvv:valW y.d=vv at *
  have hne:br≠ba:=by have:=HLT.out;have:=HBI.out;omega
  have HN:=Lib.hid (And.intro hne hvv)
  clear hwh hvb hba hA3 hvv hne i2
  by_cases hv:vv = -1
  ·subst hv
   have z:=o4.frozen
   obtain ⟨q0,q1,q2,q3,q4,q5⟩:=Mx.cells6 o4
   obtain ⟨p0,p1,p2,p3,p4,p5⟩:=Mx.cells6 oA
   go_wp2_with fail
   have o8:=st6_ob o4 (.int .i64 0) (.bool false) (.int .i64 0) (.int .i64 wh) (.int .i64 0) (.slice none 0 0)
   have F8:=st6_fr (b:=br) (Fr.refl [br] w4) (List.mem_singleton.2 rfl) (.int .i64 0) (.bool false) (.int .i64 0) (.int .i64 wh) (.int .i64 0) (.slice none 0 0)
   clear q0 q1 q2 q3 q4 q5 z p0 p1 p2 p3 p4 p5
   obtain ⟨q0,q1,q2,q3,q4,q5⟩:=Mx.cells6 o8
   refine bodyPost_ret (v:=ansv ⟨0,false,0,wh,0,[]⟩ (.slice none 0 0)) (by simp [results,Tryd.results5,go_sem,q0,q1,q2,q3,q4,q5,ansv]) rfl ⟨by rw [HE.out,HV.out.1];rfl,H4.out.own F8 (by have:=HZ.out.1;simp;omega)⟩
  ·have g1:(vv != -1)=true:=by simpa using hv
   have HW:=Lib.hid hv
   have z:=oA.frozen
   obtain ⟨p0,p1,p2,p3,p4,p5⟩:=Mx.cells6 oA
   have oB:Ob ((w4.setCell ⟨ba,1,none⟩ (.bool true)).setCell ⟨ba,2,none⟩ (.int .i64 vv)) ba 30 #[.int .i64 0,.bool true,.int .i64 vv,.int .i64 wh,.int .i64 0,.slice none 0 0]:=Ob.set (i:=2) (Ob.set (i:=1) oA (.bool true)) (.int .i64 vv)
   have FB:Fr [ba] w4 ((w4.setCell ⟨ba,1,none⟩ (.bool true)).setCell ⟨ba,2,none⟩ (.int .i64 vv)):=(Fr.setCell (S:=[ba]) (b:=ba) _ (by simp)).setCell' (b:=ba) _ (by simp)
   have o5:=o4.kept FB (by simp;exact HN.out.1)
   have H5:=Lib.hid (H4.out.own FB (by have:=HV.out.2.2.1;have:=HBI.out;have:=HZ.out.1;have:=HLT.out;simp;omega))
   have z5:=o5.frozen
   obtain ⟨q0,q1,q2,q3,q4,q5⟩:=Mx.cells6 o5
   obtain ⟨r0,r1,r2,r3,r4,r5⟩:=Mx.cells6 oB
   clear hv oA FB o4 H4
   go_wp2_with fail
   have o8:=st6_ob o5 (.int .i64 0) (.bool true) (.int .i64 vv) (.int .i64 wh) (.int .i64 0) (.slice none 0 0)
   have F8:=st6_fr (b:=br) (Fr.refl [br] ((w4.setCell ⟨ba,1,none⟩ (.bool true)).setCell ⟨ba,2,none⟩ (.int .i64 vv))) (List.mem_singleton.2 rfl) (.int .i64 0) (.bool true) (.int .i64 vv) (.int .i64 wh) (.int .i64 0) (.slice none 0 0)
   clear q0 q1 q2 q3 q4 q5 z p0 p1 p2 p3 p4 p5 r0 r1 r2 r3 r4 r5 z5
   obtain ⟨q0,q1,q2,q3,q4,q5⟩:=Mx.cells6 o8
   have hge:0≤vv:=by have:=HW.out;have:=HV.out.2.1;omega
   refine bodyPost_ret (v:=ansv ⟨0,true,vv,wh,0,[]⟩ (.slice none 0 0)) (by simp [results,Tryd.results5,go_sem,q0,q1,q2,q3,q4,q5,ansv]) rfl ⟨by rw [HE.out,HV.out.1,decide_eq_true hge,show max 0 vv=vv by omega],H5.out.own F8 (by have:=HZ.out.1;simp;omega)⟩
end Go.Proofs.YtjhefbenmhmbcaaDoor.Ge
