/- Parts. -/
import Derived.Test.YtppajakfaomkaaaGreatQbe
import Derived.Lib.SlKeysI
import Derived.Test.YtppajakfaomkaaaGreatIter
set_option linter.unusedVariables false
set_option linter.unusedSimpArgs false
set_option maxRecDepth 100000
set_option maxHeartbeats 12800000
namespace Go.Proofs.YtppajakfaomkaaaGreat.Ch
open Go.RowKit Go.Maps Go.Sort Go.Shelf Ar Mx Vw
theorem q8y {w w':World} (h:Below w.heap.size w w'):Fr [] w w':=⟨h.os,h.tape,h.output,h.size,fun k hk _=>h.block k hk⟩
theorem qbv (b:Nat) (w:World):Calls Tryz.prog 34 #[.map (some b)] w fun e w'=>e = .returned (.func (.func 53) #[] #[.pointer (some ⟨w.heap.size,0,none⟩)])/\w'=w.alloc (.cells #[.map (some b)] 82) :=
 callsIn_wide.1 (AnyZI.keys_in Tryz.keysA Fence.wide 5 trivial rfl (some b) w)
theorem qdq (m:Nat):AnyZI.SortsIn Tryz.prog Tryz.sortedA_ren Fence.wide m :=
 ⟨fun blk off cap ss W hH hblk hsz=>callsIn_wide.2 (AnyM.slices_Sort_int Tryz.sortA blk off cap ss W hH hblk hsz),
  fun p cap W=>callsIn_wide.2 (AnyM.slices_Sort_int_none Tryz.sortA p cap W)⟩
theorem qd2 (l:List Int):l.map encZ=l.flatMap fN:=by
 induction l with
 | nil=>rfl
 | cons x r ih=>rw [List.map_cons,ih];rfl
theorem q6e (b nn:Nat) (g:Int->Option Value) (ks:List Int) (w:World) (h:Zx w b nn g) (hn:nn<=1000000) (hk:ks.Pairwise (· < ·)) (hm:∀ k,k∈ks↔(g k).isSome=true) :
  Calls Tryz.prog 33 #[.func (.func 53) #[] #[.pointer (some ⟨w.heap.size,0,none⟩)]] (w.alloc (.cells #[.map (some b)] 82)) fun e w' =>
   (∃ v,e = .returned v/\w'.ownsRow (w.alloc (.cells #[.map (some b)] 82)).heap.size 3 1 v ks.length (ks.flatMap fN))/\Fr [] (w.alloc (.cells #[.map (some b)] 82)) w':=by
 obtain ⟨D,hown,hD⟩:=h
 have hsz:=hown.size_le
 have hbl:=hown.lt
 have hseq:SeqGives Fence.wide 2 Tryz.prog 53 #[.pointer (some ⟨w.heap.size,0,none⟩)] encZ (fun ss=>ss.Perm (intKeys D)) (Maps.size D) (w.alloc (.cells #[.map (some b)] 82)) :=
  AnyZI.keys_gives (ρ:=Tryz.keysA_ren) { Tryz.keysA with } Fence.wide _ trivial rfl (by omega) w.heap.size b nn D _ (by simp) (by simp) (by
   obtain ⟨es,clock,hb,Ft,hs,hD⟩:=hown
   exact ⟨es,clock,(Below.heap_alloc _ _ b hbl).trans hb,Ft,hs,hD⟩)
 have cS:=AnyZI.sorted_in Tryz.sortedA Fence.wide 5 trivial trivial trivial trivial rfl (by omega) (qdq _) (enters_of Tryz.func52 (by kernel_rfl) rfl) 53 #[.pointer (some ⟨w.heap.size,0,none⟩)] trivial (enters_of Tryz.func53 (by kernel_rfl) rfl) _ _ (by unfold maxLen;omega) (by omega) _ hseq
 have hp:ks.Perm (intKeys D):=CollectedI.perm (left:=fun _=>false) ⟨hk.imp (fun h e=>by omega),fun x=>by rw [hm,(hD.2 x).1];simp⟩ hown q1c Tryz.underlying3 (fun _=>rfl)
 refine (callsIn_wide.1 cS).mono ?_
 rintro e w' ⟨v,ss,rfl,hS,hrow,-,hb⟩
 have e1:ss.mergeSort (fun x y=>decide (x<=y))=ks:=(mergeSort_of_perm_i (hS.trans hp.symm)).trans (by
  apply List.mergeSort_of_pairwise
  exact hk.imp (fun h=>by simp;omega))
 have e2:ss.length=ks.length:=(hS.trans hp.symm).length_eq
 rw [e1,e2,qd2] at hrow
 exact ⟨⟨v,rfl,hrow⟩,q8y hb⟩
end Go.Proofs.YtppajakfaomkaaaGreat.Ch
namespace Go.Proofs.YtppajakfaomkaaaGreat.Ch
open Go.RowKit Ar Mx Vw
def fP (x:Int×Int):List Value:=[.int .i64 x.1,.int .i64 x.2]
theorem Zv:Lays fP 2:=⟨fun _=>rfl,fun x u hu=>by simp [fP] at hu;rcases hu with rfl | rfl <;> rfl,by decide⟩
theorem prI:(Tryz.prog.info? 50).map (fun i=>(i.zero,i.size,i.bytes))=some (some (.agg #[.int .i64 0,.int .i64 0]),2,16):=by kernel_rfl
theorem qd3 (k v d:Int) (W:World):(Instr.field 89 (.agg #[.int .i64 k,.int .i64 v,.int .i64 d]) 2).run Tryz.prog W = .ok (.int .i64 d) W:=by kernel_rfl
theorem qe6 (a:Int) (w:World):Calls Tryz.prog 35 #[.int .i64 a] w fun e w'=>e = .returned (.int .i64 (Ue a))/\w=w':=(Word.U3 a w).mono (by rintro e w' ⟨rfl,rfl⟩;exact ⟨rfl,rfl⟩)
theorem q3i (x:Int):∀ (l:List Int),(q0a x l).length<=l.length+1
 | []=>by simp [q0a]
 | y :: r=>by
  have:=q3i x r
  unfold q0a
  split
  ·simp
  ·split
   ·simp
   ·simp;omega
theorem q67 (l:List It):(Ur l).length<=l.length:=by
 unfold Ur
 suffices h:∀ (l:List It) (a:List Int),(l.foldl (fun a x=>q0a x.k a) a).length<=a.length+l.length by have:=h l [];simpa using this
 intro l
 induction l with
 | nil=>intro a;simp
 | cons x r ih=>intro a;rw [List.foldl_cons];have:=ih (q0a x.k a);have:=q3i x.k a;simp;omega
theorem qd7 {w:World} {a:Option Addr} {n cap i:Nat} {xs:List Int} {x:Int} (h:Sq fN w (.slice a n cap) xs) (hi:xs[i]? = some x) :
  ∃ g off,a=some ⟨g,off,none⟩/\w.cell? ⟨g,off+i,none⟩=some (.int .i64 x):=by
 obtain ⟨-,g,off,rfl,hc⟩:=Sq.cell q1s h hi
 have:=hc 0 _ rfl
 rw [Nat.mul_one,Nat.add_zero] at this
 exact ⟨g,off,rfl,this⟩
def NwAt (w3:World) (g:Int->Option It) (ks:List Int) (u x:Value) (wr:World):Prop:=∃ i,i<=ks.length/\x = .int .i64 (i:Nat)/\wr.ownsRow w3.heap.size 50 2 u ((ks.take i).filterMap (q5z g)).length (((ks.take i).filterMap (q5z g)).flatMap fP)/\Fr [] w3 wr
theorem qd0 (t wd v:Int) (n p q:Nat) (s:St) (w:World) (ht:1<=t) (ht2:t<=8) (h1:1<=n) (h2:n<=16) (h3:n<=s.l.length) (h4:s.l.length<=20000) (hA:Ar w p q s)
  (hwf:∀ it,it∈Q7 (zn (qq s.l) s.l.length n t)->(Lit.int .i64 it.k).wf=true) :
  Calls Tryz.prog 18 #[.agg #[.int .i64 t,.int .i64 n,.int .i64 wd,.int .i64 v],.pointer (some ⟨p,0,none⟩)] w fun e w'=>(∃ u,e = .returned u/\w'.ownsRow w.heap.size 50 2 u (qew (Q7 (zn (qq s.l) s.l.length n t))).length ((qew (Q7 (zn (qq s.l) s.l.length n t))).flatMap fP))/\Fr [] w w':=by
 have F0:=(Fr.refl [] w).alloc (.cells #[.int .i64 t,.int .i64 n,.int .i64 wd,.int .i64 v] 23)
 obtain ⟨c0,c1,c2,c3⟩:=Pl.xc (Ob.new w 23 #[.int .i64 t,.int .i64 n,.int .i64 wd,.int .i64 v])
 have H:=q9 (ja t wd v n p q s _ ht ht2 h1 h2 h3 h4 (hA.kept F0))
 have hcl:=Xn (qq s.l) s.l.length n t
 have HCE:=q9 (qc (show ∀ y,y∈zn (qq s.l) s.l.length n t->y.2.length<=16 from fun y hy=>by rw [Yx y hy];exact h2) hwf)
 clear hwf
 generalize zn (qq s.l) s.l.length n t=L at *
 clear hA
 have HIL:=q9 (Rl HCE.out.1)
 have HR:=q9 (q50 (Q7 L))
 have HM:=q9 (fun k=>(q6q (Q7 L) k))
 have HKL:=q9 (q67 (Q7 L))
 have HKW:=q9 (show ∀ k,k∈Ur (Q7 L)->(Lit.int .i64 k).wf=true from fun k hk=>by obtain ⟨x,hx,rfl⟩:=(q03 _ _).1 hk;exact HCE.out.2 x hx)
 unfold qew
 generalize hks:Ur (Q7 L)=ks at *
 generalize hgg:q8x (Q7 L)=g at *
 have HKG:=q9 (qc hks hgg)
 clear hks hgg
 go_enter Tryz.func18,Tryz.ntmps18
 go_wp2_with fail
 clear c0 c1 c2 c3
 refine H.out.mono ?_;rintro e w1 ⟨lv,xs,rfl,hr,hC,F1⟩
 clear H
 have F2:=q9 (F0.trans F1)
 have hxl:xs.length<=20000:=by rw [hC.len];omega
 have HL:=q9 (q43 xs L lv _ w1 (Sq.own hr) hC hxl HCE.out.1 HCE.out.2)
 have HN:=q9 (show (Q7 L).length<=320000 by have:=HIL.out;omega)
 clear F0 F1 hr hC
 go_wp2_with fail
 refine HL.out.mono ?_;rintro e w2 ⟨bm,rfl,hbm,hG,F3⟩
 rw [HKG.out.2] at hG
 generalize (Q7 L).length=nn at *
 have HS:=q9 (q6e bm nn (Ky g) ks w2 hG (by have:=HN.out;omega) HR.out (fun k=>by unfold Ky;rw [Option.isSome_map,HM.out k];simp))
 have F4:=q9 (F2.out.trans F3)
 have HG:=q9 hG
 clear HL F2 F3 hG
 go_wp2_with fail
 refine (qbv bm w2).mono ?_;rintro e _ ⟨rfl,rfl⟩
 go_wp2_with fail
 refine HS.out.mono ?_;rintro e w3 ⟨⟨kv,rfl,hk⟩,F5⟩
 have F6:=q9 (((Fr.refl [] w2).alloc _).trans F5)
 have hkr:=q9 (Sq.own (f:=fN) hk)
 obtain ⟨a,cap,rfl,-,-⟩:=xz hk
 clear HS F5 hk
 have hG3:=q9 (HG.out.up F6.out)
 have hkl:ks.length<=1000000:=by have:=HKL.out;have:=HN.out;omega
 go_wp2_with fail
 go_loopw [6,18] (NwAt w3 g ks) (fun _ x _=>ks.length - (RowKit.intOf x).toNat)
 case atStart=>exact ⟨0,by omega,rfl,⟨rfl,.inl ⟨rfl,rfl⟩⟩,Fr.refl _ _⟩
 case round =>
  obtain ⟨i,hi,rfl,hr,F⟩:=hrel
  by_cases hlt:i<ks.length
  ·obtain ⟨k,hk⟩:∃ k,ks[i]? = some k:=⟨ks[i],List.getElem?_eq_getElem hlt⟩
   obtain ⟨gk,ok,rfl,d0⟩:=qd7 (hkr.out.up F) hk
   have hkm:=List.mem_of_getElem? hk
   obtain ⟨x,hx⟩:∃ x,g k=some x:=by
    have:=HM.out k
    rw [decide_eq_true hkm] at this
    exact Option.isSome_iff_exists.1 this
   have hkw:=HKW.out k hkm
   have hlk:=Zx.look (hG3.out.up F) Tryz.underlying82 (qb2 _) hkw false
   rw [qd (by simp),show (Ky g k).getD Us = .agg #[.int .i64 x.k,.int .i64 x.v,.int .i64 x.d] by unfold Ky;rw [hx];rfl] at hlk
   have hfl:=qd3 x.k x.v x.d wr
   have hn:(ks.take (i+1)).filterMap (q5z g)=(ks.take i).filterMap (q5z g)++(q5z g k).toList:=by
    rw [List.take_add_one,hk,Option.toList_some,List.filterMap_append]
    cases h:q5z g k <;> simp [h]
   have hnp:q5z g k=if Ue x.d = -1 then none else some (k,Ue x.d):=by unfold q5z;rw [hx];rfl
   have hpl:((ks.take i).filterMap (q5z g)).length<=i:=by
    have:=List.length_filterMap_le (q5z g) (ks.take i);rw [List.length_take] at this;omega
   generalize (ks.take i).filterMap (q5z g)=out at *
   have HX:=q9 (qc hn (qc hnp hpl))
   clear hn hnp hpl hk hkm hx hkw
   go_wp2_with fail
   refine (qe6 _ _).mono ?_;rintro e _ ⟨rfl,rfl⟩
   generalize hvv:Ue x.d=vv at *
   have HV:=q9 hvv
   clear hvv hlk hfl
   by_cases qv:vv = -1
   ·have gq:(vv != -1)=false:=by simpa using qv
    have HQ:=q9 qv
    clear qv
    go_wp2_with fail
    have HF:=q9 F
    have HR2:=q9 hr
    clear hr F d0
    go_roundw
    case rel=>exact ⟨i+1,by omega,by go_num,by rw [HX.out.1,HX.out.2.1,qf HQ.out];simpa using HR2.out,HF.out⟩
    case measure=>simp [RowKit.intOf];omega
   ·have gq:(vv != -1)=true:=by simpa using qv
    have HQ:=q9 qv
    clear qv
    have GA:=(Fr.refl [] wr).alloc (.cells #[.int .i64 k,.int .i64 vv] 50)
    have X4:=qm hr GA
    have X3:=(Sq.block (f:=fP) (xs:=[(k,vv)]) (c:=1) (Ob.new wr 50 #[.int .i64 k,.int .i64 vv]) rfl rfl (Nat.le_refl _) (by simp [maxLen]))
    have EA:=F.trans GA
    have hsA:=EA.size
    clear GA hr
    go_wp2_with (at_builtin;refine qp Zv rfl _ _ 47 rfl Tryz.underlying47 prI rfl (B:=w3.heap.size) u6 out rfl X4 _ [(k,vv)] rfl X3 (show out.length+1<=1000000 by have:=HX.out.2.2;omega) (by decide) hsA ?_;intro a9 c9 w9 r9 F9;generalize hT:out++[(k,vv)]=T at r9 ⊢;have E9:=EA.own F9 (z6 X4);have HT:=q9 hT;clear hT F9 X3 X4 hsA EA)
    go_roundw
    case rel=>exact ⟨i+1,by omega,by go_num,by rw [HX.out.1,HX.out.2.1,qd HQ.out,Option.toList_some,HT.out];exact r9,E9⟩
    case measure=>simp [RowKit.intOf];omega
  ·obtain rfl:i=ks.length:=by omega
   rw [List.take_length] at hr
   have HR2:=q9 hr
   have HF:=q9 F
   clear hr F
   go_wp2
   go_ret
   exact ⟨⟨_,rfl,jv HR2.out ((F4.out.trans F6.out).size)⟩,(F4.out.trans F6.out).trans HF.out⟩
set_option maxRecDepth 100000
def s0:St:=Pl.begun 1 3 100
def s1:St:=((s0.yf 22 3).yf 23 4).yf 24 6291462
def s2:St:=s1.yf 15 5
theorem qde:s1.l.length=100:=by decide +kernel
theorem qdf:s2.l.length=100:=by decide +kernel
theorem all1:q2n (qq s1.l) s1.l.length 3 1=[15]:=by decide +kernel
theorem its1:Q7 (zn (qq s1.l) s1.l.length 3 1)=[⟨4,0,6291462⟩]:=by decide +kernel
theorem now1:qew (Q7 (zn (qq s1.l) s1.l.length 3 1))=[(4,5)]:=by rw [its1];decide +kernel
theorem is1:isL (zn (qq s1.l) s1.l.length 3 1)=true:=by decide +kernel
theorem is2:isL (zn (qq s2.l) s2.l.length 3 1)=false:=by decide +kernel
theorem of4:ofL (zn (qq s2.l) s2.l.length 3 1) 4=0:=by decide +kernel
theorem of5:ofL (zn (qq s2.l) s2.l.length 3 1) 5=15:=by decide +kernel
theorem acc2:s2.n=0:=by decide +kernel
theorem all_1 (p q:Nat) (w:World) (A:Ar w p q s1):Calls Tryz.prog 9 #[.agg #[.int .i64 1,.int .i64 3,.int .i64 100,.int .i64 1000],.pointer (some ⟨p,0,none⟩)] w fun e w'=>(∃ u,e = .returned u/\w'.ownsRow w.heap.size 3 1 u 1 [.int .i64 15])/\Fr [] w w':=by
 have:=q0z 1 100 1000 3 p q s1 w (by decide) (by decide) (by decide) (by decide) (by rw [qde];decide) (by rw [qde];decide) A
 rw [all1] at this;exact this
theorem now_1 (p q:Nat) (w:World) (A:Ar w p q s1):Calls Tryz.prog 18 #[.agg #[.int .i64 1,.int .i64 3,.int .i64 100,.int .i64 1000],.pointer (some ⟨p,0,none⟩)] w fun e w'=>(∃ u,e = .returned u/\w'.ownsRow w.heap.size 50 2 u 1 [.int .i64 4,.int .i64 5])/\Fr [] w w':=by
 have:=qd0 1 100 1000 3 p q s1 w (by decide) (by decide) (by decide) (by decide) (by rw [qde];decide) (by rw [qde];decide) A (by rw [its1];intro it h;simp at h;subst h;rfl)
 rw [now1] at this;exact this
theorem is_1 (p q:Nat) (w:World) (A:Ar w p q s1):Calls Tryz.prog 10 #[.agg #[.int .i64 1,.int .i64 3,.int .i64 100,.int .i64 1000],.pointer (some ⟨p,0,none⟩)] w fun e w'=>e = .returned (.bool true)/\Fr [] w w':=by
 have:=Rz 1 100 1000 3 p q s1 w (by decide) (by decide) (by decide) (by decide) (by rw [qde];decide) (by rw [qde];decide) A
 rw [is1] at this;exact this
theorem is_2 (p q:Nat) (w:World) (A:Ar w p q s2):Calls Tryz.prog 10 #[.agg #[.int .i64 1,.int .i64 3,.int .i64 100,.int .i64 1000],.pointer (some ⟨p,0,none⟩)] w fun e w'=>e = .returned (.bool false)/\Fr [] w w':=by
 have:=Rz 1 100 1000 3 p q s2 w (by decide) (by decide) (by decide) (by decide) (by rw [qdf];decide) (by rw [qdf];decide) A
 rw [is2] at this;exact this
theorem of_4 (p q:Nat) (w:World) (A:Ar w p q s2):Calls Tryz.prog 11 #[.agg #[.int .i64 1,.int .i64 3,.int .i64 100,.int .i64 1000],.pointer (some ⟨p,0,none⟩),.int .i64 4] w fun e w'=>e = .returned (.int .i64 0)/\Fr [] w w':=by
 have:=Xv 1 100 1000 4 3 p q s2 w (by decide) (by decide) (by decide) (by decide) (by rw [qdf];decide) (by rw [qdf];decide) A
 rw [of4] at this;exact this
theorem of_5 (p q:Nat) (w:World) (A:Ar w p q s2):Calls Tryz.prog 11 #[.agg #[.int .i64 1,.int .i64 3,.int .i64 100,.int .i64 1000],.pointer (some ⟨p,0,none⟩),.int .i64 5] w fun e w'=>e = .returned (.int .i64 15)/\Fr [] w w':=by
 have:=Xv 1 100 1000 5 3 p q s2 w (by decide) (by decide) (by decide) (by decide) (by rw [qdf];decide) (by rw [qdf];decide) A
 rw [of5] at this;exact this
theorem acc_2 (p q:Nat) (w:World) (A:Ar w p q s2):Calls Tryz.prog 19 #[.pointer (some ⟨p,0,none⟩)] w fun e w'=>e = .returned (.int .i64 0)/\w=w':=by
 have:=Rw w p q s2 A
 rw [acc2] at this;exact this
theorem qcs:Tryz.prog.eqGuardType Tryz.prog.depth 50=false:=by kernel_rfl
theorem qet (W:World):(binOp .eql 50 (.agg #[.int .i64 4,.int .i64 5]) (.agg #[.int .i64 4,.int .i64 5])).run Tryz.prog W = .ok (.bool true) W:=by
 have u3:=Tryz.underlying3
 have a3:(isAgg 3).run Tryz.prog W = .ok false W:=by kernel_rfl
 have hS:Tryz.prog.underlying 50=some (.struct (Tryz.prog.fieldsOf 50)):=by kernel_rfl
 have hp:Tryz.prog.stoodInHeld 50=false:=by kernel_rfl
 rw [run_eql_struct,show (10000:Nat)=9999+1 from rfl,run_equalIn_agg W 9999 50 _ _ hS hp]
 simp only [Program.fieldsOf,Tryz.underlying50]
 go_simp
theorem Wm (w:World):Calls Tryz.prog 5 #[] w fun e w'=>e = .returned (.bool true)/\Fr [] w w':=by
 have isE:=Er.isE
 go_enter Tryz.func5,Tryz.ntmps5
 go_wp2_with fail
 refine (Pl.q9e 1 3 100 _).mono ?_;rintro e w1 ⟨rfl,F1⟩
 have G:=F1.alloc (.cells #[.int .i64 1,.int .i64 3,.int .i64 100,.int .i64 1000] 23)
 have oc:=Ob.new w1 23 #[.int .i64 1,.int .i64 3,.int .i64 100,.int .i64 1000]
 obtain ⟨c0,c1,c2,c3⟩:=Pl.xc oc
 have hcw:=oc.lt
 have hw1:=F1.size
 clear F1
 go_wp2_with fail
 refine (Pl.q97 1 3 100 1000 (by decide) _).mono ?_;rintro e w2 ⟨p,q,rfl,hp,hq,A,F2⟩
 rw [Zp] at hp hq
 replace oc:=oc.up F2
 have hcw2:=oc.lt
 have hA2:=A.lt
 replace G:=G.trans F2
 have hG:=G.size
 have A:Ar w2 p q s0:=A
 clear F2 c0 c1 c2 c3
 generalize hbc:w1.heap.size=bc at *
 have nqc:bc≠q:=by omega
 have npc:bc≠p:=by omega
 have hwq:w.heap.size<=q:=by omega
 obtain ⟨c0,c1,c2,c3⟩:=Pl.xc oc
 go_wp2_with fail
 refine (Pl.Zf 1 3 100 1000 (by decide) (by decide) _).mono ?_;rintro e w3 ⟨rfl,F3⟩
 replace A:=A.kept F3
 replace oc:=oc.up F3
 replace G:=G.trans F3
 clear F3 c0 c1 c2 c3 hG hA2 hcw2 hcw
 rw [show (3+1+4+7:Int)=15 by decide]
 go_wp2_with fail
 refine (Pl.wu 15 0 (by decide) (by decide) (by decide) (by decide) _).mono ?_;rintro e _ ⟨rfl,rfl⟩
 go_wp2_with fail
 refine (ji _ p q _ _ _ A).mono ?_;rintro e w4 ⟨rfl,A2,F2⟩
 clear A
 have A:Ar w4 p q (s0.yf 22 3):=A2
 clear A2
 replace oc:=oc.kept F2 (by simpa using nqc)
 replace G:=G.own F2 (by simpa using hwq)
 clear F2
 go_wp2_with fail
 refine (Pl.wu 15 0 (by decide) (by decide) (by decide) (by decide) _).mono ?_;rintro e _ ⟨rfl,rfl⟩
 go_wp2_with fail
 refine (ji _ p q _ _ _ A).mono ?_;rintro e w5 ⟨rfl,A2,F2⟩
 clear A
 have A:Ar w5 p q ((s0.yf 22 3).yf 23 4):=A2
 clear A2
 replace oc:=oc.kept F2 (by simpa using nqc)
 replace G:=G.own F2 (by simpa using hwq)
 clear F2
 go_wp2_with fail
 refine (Pl.wu 15 0 (by decide) (by decide) (by decide) (by decide) _).mono ?_;rintro e _ ⟨rfl,rfl⟩
 go_wp2_with fail
 refine (ji _ p q _ _ _ A).mono ?_;rintro e w6 ⟨rfl,A2,F2⟩
 clear A
 have A:Ar w6 p q (s1):=A2
 clear A2
 replace oc:=oc.kept F2 (by simpa using nqc)
 replace G:=G.own F2 (by simpa using hwq)
 clear F2
 obtain ⟨c0,c1,c2,c3⟩:=Pl.xc oc
 go_wp2_with fail
 clear c0 c1 c2 c3
 have hq6:=A.lt
 refine qx (by kernel_rfl) [] (fun w7 F7=>?_)
 refine epq [true,true,false,true,true,false,false,false] 4 (F7.mono) ?_
 apply qg
 refine ⟨fun wf Ff=>?_,?_⟩
 ·obtain ⟨c0,c1,c2,c3⟩:=Pl.xc (oc.up Ff)
  have k0:=qb c0
  have k1:=qb c1
  have k2:=qb c2
  have k3:=qb c3
  clear c0 c1 c2 c3
  simp only [sel]
  repeat (go_big_quiet_step (fail))
  exact wpQuiet_nil rfl
 refine eoq 2 (fun w8 F8=>?_)
 have E:=F7.trans F8
 clear F7 F8
 go_wp2_with fail
 refine (all_1 p q _ (A.kept E)).mono ?_;rintro e w9 ⟨⟨u,rfl,hu⟩,F9⟩
 replace hu:=jv hu E.size
 replace E:=E.trans F9
 clear F9
 go_wp2_with fail
 refine ql ⟨E,?_⟩
 refine eoq 5 (fun w10 F10=>?_)
 replace E:=E.trans F10
 replace hu:=qm hu F10
 clear F10
 go_wp2_with fail
 refine (now_1 p q _ (A.kept E)).mono ?_;rintro e w11 ⟨⟨v,rfl,hv⟩,F9⟩
 replace hv:=jv hv E.size
 replace E:=E.trans F9
 replace hu:=qm hu F9
 clear F9
 go_wp2_with fail
 refine ql ⟨E,?_⟩
 refine eoq 6 (fun w12 F12=>?_)
 replace E:=E.trans F12
 replace hu:=qm hu F12
 replace hv:=qm hv F12
 clear F12
 go_wp2_with fail
 refine ql ⟨E,?_⟩
 refine eoq 7 (fun w12 F12=>?_)
 replace E:=E.trans F12
 replace hu:=qm hu F12
 replace hv:=qm hv F12
 clear F12
 go_wp2_with fail
 refine ql ⟨E,?_⟩
 refine zl (by kernel_rfl) (fun w13 F13=>?_)
 replace E:=E.trans F13
 replace hu:=qm hu F13
 replace hv:=qm hv F13
 clear F13
 replace A:=A.kept E
 replace oc:=oc.up E
 replace G:=G.trans E
 clear E
 obtain ⟨c0,c1,c2,c3⟩:=Pl.xc oc
 go_wp2_with fail
 refine (is_1 p q _ A).mono ?_;rintro e w14 ⟨rfl,F14⟩
 replace A:=A.kept F14
 replace oc:=oc.up F14
 replace G:=G.trans F14
 replace hu:=qm hu F14
 replace hv:=qm hv F14
 clear F14 c0 c1 c2 c3
 have nqu:q∉u.ownBlock.toList:=by intro hi;have:=z6 hu q hi;omega
 have nqv:q∉v.ownBlock.toList:=by intro hi;have:=z6 hv q hi;omega
 go_wp2_with fail
 refine (ji _ p q _ _ _ A).mono ?_;rintro e w15 ⟨rfl,A2,F15⟩
 clear A
 have A:Ar w15 p q s2:=A2
 clear A2
 replace oc:=oc.kept F15 (by simpa using nqc)
 replace G:=G.own F15 (by simpa using hwq)
 replace hu:=jr hu F15 (by intro g hg hi;simp at hi;subst hi;exact nqu (by rw [hg];simp))
 replace hv:=jr hv F15 (by intro g hg hi;simp at hi;subst hi;exact nqv (by rw [hg];simp))
 clear F15 nqu nqv
 obtain ⟨au,cu,rfl,-,hcu⟩:=xz hu
 obtain ⟨av,cv,rfl,-,hcv⟩:=xz hv
 obtain ⟨gu,rfl,-,hcu⟩:=hcu.resolve_left (by decide)
 obtain ⟨gv,rfl,-,hcv⟩:=hcv.resolve_left (by decide)
 have e0:=hcu 0 _ rfl
 have e1:=hcv 0 _ rfl
 have e2:=hcv 1 _ rfl
 clear hcu hcv hu hv
 have hpe:=qet
 have hpg:=qcs
 obtain ⟨c0,c1,c2,c3⟩:=Pl.xc oc
 go_wp2_with fail
 refine (is_2 p q _ A).mono ?_;rintro e w16 ⟨rfl,F16⟩
 replace A:=A.kept F16
 replace oc:=oc.up F16
 replace G:=G.trans F16
 replace e0:=F16.cell e0 (by simp)
 replace e1:=F16.cell e1 (by simp)
 replace e2:=F16.cell e2 (by simp)
 clear F16 c0 c1 c2 c3
 obtain ⟨c0,c1,c2,c3⟩:=Pl.xc oc
 go_wp2_with fail
 refine (of_4 p q _ A).mono ?_;rintro e w17 ⟨rfl,F16⟩
 replace A:=A.kept F16
 replace oc:=oc.up F16
 replace G:=G.trans F16
 replace e0:=F16.cell e0 (by simp)
 replace e1:=F16.cell e1 (by simp)
 replace e2:=F16.cell e2 (by simp)
 clear F16 c0 c1 c2 c3
 obtain ⟨c0,c1,c2,c3⟩:=Pl.xc oc
 go_wp2_with fail
 refine (of_5 p q _ A).mono ?_;rintro e w18 ⟨rfl,F16⟩
 replace A:=A.kept F16
 replace oc:=oc.up F16
 replace G:=G.trans F16
 replace e0:=F16.cell e0 (by simp)
 replace e1:=F16.cell e1 (by simp)
 replace e2:=F16.cell e2 (by simp)
 clear F16 c0 c1 c2 c3
 go_wp2_with fail
 refine (acc_2 p q _ A).mono ?_;rintro e _ ⟨rfl,rfl⟩
 go_wp2_with fail
 go_ret
 exact ⟨rfl,G⟩
end Go.Proofs.YtppajakfaomkaaaGreat.Ch
