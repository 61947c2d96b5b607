/- Texts that this proof leans on, one behind the other: ClaimEnds, Laws13b, ClaimRises. -/
import Derived.Test.YtofanejchncepaaDoorQai
import Derived.Test.YtofanejchncepaaDoorQaj
import Derived.Test.YtofanejchncepaaDoorQak
import Derived.Deep.DeepHandedRow
import Derived.Lay
import Derived.Test.YtofanejchncepaaDoorCards
import Derived.Test.YtofanejchncepaaDoorTie
set_option linter.unusedVariables false
set_option linter.unusedSimpArgs false
set_option maxRecDepth 100000
set_option maxHeartbeats 12800000
namespace Go.Proofs.YtofanejchncepaaDoor.claimEnds
open Go.ChangeShapes Go.WideShapes Go.ChangeAt Go.RowKit Go.Deep
theorem own:ownKnob Tryd.prog.godebug=none:=by kernel_rfl
theorem laidOut:laidOutB Tryd.prog=true:=by kernel_rfl
theorem readable:Tryd.f5.params.toList.all (fun t=>Tryd.prog.readableRec t && decide (t<Tryd.prog.types.size))=true:=by kernel_rfl
theorem contract (H:Type) (enc:TypeId×Value→H) (W:World) (base:Nat) (args:Array Value) (ds gs:List (DataW H)) (before:List MemPlace)
  (hval:∀ (j:Nat) t v,Tryd.f5.params[j]? = some t→args[j]? = some v→Value.okWide Tryd.prog W .any base t v)
  (hW:DataW.Whole enc Tryd.prog Tryd.f5.params.toList Rows.claimEndsSpec.vars false W args.toList ds gs before) (hL:laidMet Tryd.prog Rows.claimEndsRow.laid W) :
  Calls Tryd.prog 5 args W fun e W'=>∃ v,e = .returned v∧Rows.claimEndsSpec.post enc Tryd.prog Tryd.f5 false true false false W args v W':=by
 have hW':=hW;obtain ⟨p,q,hA0,hV,rfl,hfz,hnd⟩:=hW;have hA:DataW.TrodAll enc Tryd.prog W 0 (fun _=>true) true Tryd.f5.params.toList args.toList ds p:=hA0;rw [Tryd.params5] at hA hval;obtain ⟨v0,vs0,d0,ds0,p0,q0,hargs,rfl,rfl,h0,r0⟩:=trodAll_cons hA;obtain ⟨v1,vs1,d1,ds1,p1,q1,rfl,rfl,rfl,h1,r1⟩:=trodAll_cons r0;obtain ⟨rfl,rfl,rfl⟩:=trodAll_nil r1;obtain rfl:args = #[v0,v1]:=by cases args;simp_all
 obtain ⟨rfl,rfl⟩:=trodVars_none hV;obtain ⟨a0,rfl,rfl,rfl,w0⟩:=open_int Tryd.underlying22 (hval 0 22 v0 rfl rfl) h0;obtain ⟨a1,rfl,rfl,rfl,w1⟩:=open_int Tryd.underlying22 (hval 1 22 v1 rfl rfl) h1;clear hA0;refine (Kc.ends13_any a0 a1 W (Word.tab_of (by simp [Rows.claimEndsRow]) hL) (by have:=bounds_u16 w0;omega) (by have:=bounds_u16 w1;omega)).mono fun e W' ⟨he,hd⟩=>?_
 exact Ao
theorem laid_met (os:Os):laidMet Tryd.prog Rows.claimEndsRow.laid ((World.laidAll Tryd.prog os Rows.claimEndsRow.laid).forCall (fun _ _=>0) ⟨#[],#[Value.int .u16 0,.int .u16 0],[]⟩).memory :=
 laidMet_laidAll _ Bm Bm
theorem reads (os:Os) {H:Type} (enc:TypeId×Value→H):∃ places,DataW.whole enc Tryd.prog ((World.laidAll Tryd.prog os Rows.claimEndsRow.laid).forCall (fun _ _=>0) ⟨#[],#[Value.int .u16 0,.int .u16 0],[]⟩).memory Tryd.f5.params.toList Rows.claimEndsSpec.vars false (#[Value.int .u16 0,.int .u16 0]:Array Value).toList 8=some ([.lit (.int .u16 0),.lit (.int .u16 0)],[],places) :=
 ⟨[],by kernel_rfl⟩
theorem lifted (os:Os) (started:os.Started) (H:Type) (enc:TypeId×Value→H) (F:Stop.Interp) :
  ReturnsInHanded {} Tryd.checked os 5 .any ((OpenSpec.ofChange Rows.claimEndsSpec).preRow enc Tryd.prog Tryd.f5 Rows.claimEndsRow.domain false Rows.claimEndsRow.laid) (((OpenSpec.ofChange Rows.claimEndsSpec).at F).post enc Tryd.prog Tryd.f5 false true false false):=by
 obtain ⟨places,hx⟩:=reads os enc
 refine returnsInHanded_of_row (C:=Tryd.checked) (s:=OpenSpec.ofChange Rows.claimEndsSpec) own started Bm Tryd.func5
  (witness_row_at (enc:=enc) (C:=Tryd.checked) false (World.laidAll Tryd.prog os Rows.claimEndsRow.laid) #[Value.int .u16 0,.int .u16 0] rfl Bm Bm Bm
   (OpenSpec.preRow_of_cond 8 hx Bm (fun k hk=>by cases hk) Bm (laid_met os))) ?_
 exact Ap
theorem said:Rows.ClaimEndsSaid :=
 OpenClaim.holds_of_cond 5 Tryd.f5 rfl rfl rfl rfl rfl rfl rfl ⟨rfl,rfl,rfl,rfl,rfl⟩ rfl rfl rfl rfl rfl Bm Tryd.func5 Bm
  (of_decide_eq_true Bm) Bq
  (fun os started H enc _ F=>by rw [OpenClaim.pre_eq_preRow];exact lifted os started H enc F)
theorem plain (f : FuncId) (fn : Func) (hf : Tryd.pinned.checked.prog.funcNamed "armillary/armillarylaw13.ClaimEnds" = some f) (hfn : Tryd.pinned.checked.prog.funcs[f]? = some fn) :
  true=Tryd.pinned.checked.prog.looks []∧∀ (j:Nat) t,fn.params[j]? = some t→Tryd.pinned.checked.prog.wantsStandIn t=false:=by
 obtain rfl : f = 5 := Option.some.inj ((show Tryd.prog.funcNamed "armillary/armillarylaw13.ClaimEnds" = some 5 by kernel_rfl).symm.trans hf) |>.symm;obtain rfl:fn=Tryd.f5:=(Option.some.inj (Tryd.func5.symm.trans hfn)).symm;refine ⟨by kernel_rfl,fun j t ht=>?_⟩;have all:(Tryd.f5.params.all fun t=>!(Tryd.prog.wantsStandIn t))=true:=by kernel_rfl
 exact Ak
theorem card:Rows.ClaimEndsCardSaid :=
 Claim7.holds_tied_plain_at .later [] _ _ _ _ said (fun _ h=>by cases h) Bm (fun _ h=>by cases h) claimEnds_row_tie rfl ⟨rfl,rfl⟩ Bm rfl plain Bm
end Go.Proofs.YtofanejchncepaaDoor.claimEnds
namespace Go.Proofs.YtofanejchncepaaDoor.Kc
open Go.RowKit Go.Proofs.YtofanejchncepaaDoor.Ar Go.Proofs.YtofanejchncepaaDoor.Mx
set_option maxRecDepth 100000
def sR:St:=Pl.begun 4 6 200
theorem lenR:sR.l.length=200:=by decide +kernel
theorem pkR:peek sR.l 3=0∧peek sR.l 4=0∧peek sR.l 5=0∧peek sR.l 6=0:=by decide +kernel
def G4 (g:Nat→Int):Array Value:=#[.int .i64 (g 0),.int .i64 (g 1),.int .i64 (g 2),.int .i64 (g 3)]
def upG (g:Nat→Int) (t:Nat) (v:Int):Nat→Int:=fun j=>if j=t then v else g j
theorem G4_set (g:Nat→Int) {t:Nat} (h:t<4) (v:Int):(G4 g).setIfInBounds t (.int .i64 v)=G4 (upG g t v):=by rcases (by omega:t=0∨t=1∨t=2∨t=3) with rfl | rfl | rfl | rfl <;> simp [G4,upG]
theorem G4_get (g:Nat→Int) {j:Nat} (h:j<4):(G4 g)[j]? = some (.int .i64 (g j)):=by rcases (by omega:j=0∨j=1∨j=2∨j=3) with rfl | rfl | rfl | rfl <;> simp [G4]
structure RzS (s:St) (st:Int) (i:Nat) (g:Nat→Int):Prop where
 len:s.l.length=200
 clock:peek s.l 1=st+i
 psa:∀ j:Nat,j<4→peek s.l (3+j)=g j
theorem RzS.new (st:Int):RzS (sR.poke 1 st) st 0 (fun _=>0):=by
 refine ⟨?_,?_,?_⟩
 ·show (poke sR.l 1 st).length=_;rw [pokeL,lenR]
 ·show peek (poke sR.l 1 st) 1=_;rw [peekP,if_pos ⟨rfl,by decide,by rw [lenR];decide⟩];simp
 ·intro j hj;show peek (poke sR.l 1 st) (3+j)=_;rw [peekP,if_neg Bn];obtain ⟨a,b,c,d⟩:=pkR;rcases (by omega:j=0∨j=1∨j=2∨j=3) with rfl | rfl | rfl | rfl
  ·exact a
  ·exact b
  ·exact c
  ·exact d
def yR (t i:Nat):Cm:=y00 1000 (3+t) (i+1)
structure RzE (t i:Nat) (s:St) (st:Int) (g:Nat→Int):Prop where
 on:∀ k,k<5→(runC k (yR t i) s).1.ln=(k:Int)
 off:(runC 5 (yR t i) s).1.ln=5
 ver:(runC 5 (yR t i) s).1.ver=st+i
 err:(runC 5 (yR t i) s).1.err=0
 nx:RzS (runC 5 (yR t i) s).2 st (i+1) (upG g t (claimW (i+1) (st+i+2)))
theorem RzS.run {s:St} {st:Int} {i t:Nat} {g:Nat→Int} (h:RzS s st i g) (ht:t<4) (h0:0≤st∧st≤899) (hi:i<30):RzE t i s st g:=by
 obtain ⟨r1,r2,r3,r4,r5,r6⟩:=run5 1000 (3+t) (i+1) s (by rw [h.len];decide) (by rw [h.len];omega) Bn Cb Cb Cb;rw [h.clock] at r3 r6;refine ⟨r1,r2,r3,r4,by show (runC 5 (y00 1000 (3+t) (i+1)) s).2.l.length=_;rw [r5,h.len],?_,?_⟩
 ·show peek (runC 5 (y00 1000 (3+t) (i+1)) s).2.l 1=_;rw [r6,if_pos rfl];omega
 ·intro j hj;show peek (runC 5 (y00 1000 (3+t) (i+1)) s).2.l (3+j)=_;rw [r6,if_neg Bn];unfold upG;by_cases e:j=t
  ·rw [if_pos Bn,if_pos e]
  ·rw [if_neg Bn,if_neg e,h.psa j hj]
theorem newR (t i:Nat) (ht:t<4) (w:World):Calls Tryd.prog 12 #[.agg #[.int .i64 4,.int .i64 6,.int .i64 200,.int .i64 1000],.int .i64 t,.int .i64 ((i:Int)+1)] w fun e w'=>∃ b,e = .returned (.pointer (some ⟨b,0,none⟩))∧w.heap.size≤b∧KcIs w' b (yR t i)∧Fr [] w w':=new_any ⟨4,6,200,1000⟩ t (i+1) Bn w
def RzR (W:World) (p q bw:Nat) (st:Int) (n:Nat) (v:Value) (wr:World):Prop:=∃ (i:Nat) (s:St) (g:Nat→Int),v = .int .i64 (i:Nat)∧i≤n∧RzS s st i g∧Ar wr p q s∧Ob wr bw 43 (G4 g)∧Fr [p,q,bw] W wr
def RjR (W:World) (v:Value) (wr:World):Prop:=∃ (j:Nat),v = .int .i64 (j:Nat)∧j≤4∧Fr [] W wr
theorem tmod4 {x:Int} (h:0≤x):∃ t:Nat,x % 4=(t:Int)∧t<4:=⟨(x % 4).toNat,by omega,by omega⟩
theorem u8_get {st:List Int} (h:∀ n∈st,(Lit.int IntKind.u8 n).wf=true) {k:Nat} (hk:k<st.length):0≤st.getD k 0∧st.getD k 0≤255:=by rw [List.getD_eq_getElem?_getD,List.getElem?_eq_getElem hk];have:=bounds_u8 (h _ (List.getElem_mem hk));simp only [Option.getD_some];omega
theorem rises13_any (sv:Value) (ts:List Int) (a1:Int) (w:World) (t:Word.Tab w) (hS:Law.Ints w .u8 sv ts) (h1:0≤a1∧a1≤65535):Calls Tryd.prog 4 #[sv,.int .u16 a1] w fun e w'=>e = .returned (.bool true)∧Fr [] w w':=by
 obtain ⟨ar,cap,rfl,hm1,hw1,hS⟩:=hS;have HK:=Lib.hid (known_true w t);have HR:=Lib.hid hS;clear hS;go_enter Tryd.func4,Tryd.ntmps4;go_wp2_with fail;refine HK.out.mono ?_;rintro e w0 ⟨rfl,G0⟩;clear HK;by_cases h30:ts.length≤30
 case neg =>
  have g1:decide ((ts.length:Int)>30)=true:=by simp;omega
  have g2:decide (ts.length>30)=true:=by simp;omega
  clear h30;go_wp2_with fail;go_ret;exact ⟨rfl,G0⟩
 have g1:decide ((ts.length:Int)>30)=false:=by simp;omega
 have g2:decide (ts.length>30)=false:=by simp;omega
 have g3:decide ((30:Int)<(ts.length:Int))=false:=by simp;omega
 go_wp2_with fail;refine (Pl.conf_any 4 6 200 _).mono ?_;rintro e w1 ⟨rfl,F1⟩;have G:=(G0.trans F1).alloc (.cells #[.int .i64 4,.int .i64 6,.int .i64 200,.int .i64 1000] 35);have oc:=Ob.new w1 35 #[.int .i64 4,.int .i64 6,.int .i64 200,.int .i64 1000];have hcw:=oc.lt;have hw1':=(G0.trans F1).size;obtain ⟨c0,c1,c2,c3⟩:=Pl.cells4 oc;clear F1 G0;go_wp2_with fail;refine (Pl.make_yes 4 6 200 1000 Bp _).mono ?_;rintro e w2 ⟨p,q,rfl,hp,hq,A,F2⟩;rw [sizeA] at hp hq;replace oc:=oc.up F2;have hA2:=A.lt;replace G:=G.trans F2;have A:Ar w2 p q sR:=A;clear F2 c0 c1 c2 c3;generalize hbc:w1.heap.size=bc at *;have hcl:=oc.lt;have hG:=G.size;have HN0:=Lib.hid (show (bc≠p∧bc≠q)∧(w.heap.size≤p∧w.heap.size≤q∧w.heap.size≤bc) by omega);have hpq2:p<w2.heap.size∧q<w2.heap.size∧bc<w2.heap.size:=by omega
 clear hcw hw1' hp hq hA2 hcl hG hbc;have hck0:0≤a1 % 900∧a1 % 900≤899:=by omega
 go_wp2_with fail;generalize hck:a1 % 900=ck at *;clear hck h1;refine (poke_any _ p q _ _ _ A).mono ?_;rintro e w3 ⟨rfl,A3,F3⟩;replace oc:=oc.kept F3 (by simp;exact HN0.out.1.2);replace G:=G.own F3 (by simp;exact HN0.out.2.2.1);have hs3:=F3.size;clear A F3;have Ga:=(Fr.refl [] w3).alloc (.cells #[.int .i64 0,.int .i64 0,.int .i64 0,.int .i64 0] 43);have ow:Ob (w3.alloc (.cells #[.int .i64 0,.int .i64 0,.int .i64 0,.int .i64 0] 43)) w3.heap.size 43 (G4 fun _=>0):=Ob.new w3 43 #[.int .i64 0,.int .i64 0,.int .i64 0,.int .i64 0];replace A3:=A3.kept Ga;replace oc:=oc.up Ga;replace G:=G.trans Ga;have hlt:=tabLt t;have hws:=ow.lt;have hGs:=G.size;have hpl:=HN0.out;clear Ga HN0;go_wp2_with fail;generalize hwa:World.alloc w3 _=wa at *;generalize hbw:w3.heap.size=bw at *;have HN:=Lib.hid (show (1≠p∧1≠q∧1≠bw)∧(bc≠p∧bc≠q∧bc≠bw)∧(w.heap.size≤p∧w.heap.size≤q∧w.heap.size≤bw)∧(bw≠p∧bw≠q)∧(p<wa.heap.size∧q<wa.heap.size∧bw<wa.heap.size) by omega);have HT:=Lib.hid (Gp.tab_up t G);have HO:=Lib.hid oc;have HG:=Lib.hid G;have HW:=Lib.hid (And.intro hw1 hm1);have HC:=Lib.hid hck0;have HL:=Lib.hid h30;clear t hlt oc G hs3 hpq2 hpl hwa hws hGs hbw hw1 hck0 h30;go_wp2_with fail;go_loopw [10] (RzR wa p q bw ck ts.length) (fun v _=>40 - (intOf v).toNat);case atStart=>exact ⟨0,_,_,rfl,by omega,RzS.new ck,A3,ow,Fr.refl _ _⟩
 ·skip;obtain ⟨i,s,g,rfl,hin,hz,A,ow,F⟩:=hrel;by_cases hi:i<ts.length
  case neg =>
   obtain rfl:i=ts.length:=by omega
   have HZ:=Lib.hid hz;have HF:=Lib.hid (And.intro A F);clear hz A F ow hin hi;have q4:decide ((ts.length:Int)<(ts.length:Int))=false:=by simp
   have hl:=HL.out;have hc:=HC.out;go_wp2_with fail;refine (peek_any _ p q _ _ HF.out.1).mono ?_;rintro e _ ⟨rfl,rfl⟩;rw [HZ.out.clock];go_wp2;go_ret;exact ⟨rfl,HG.out.own HF.out.2 Bz⟩
  have q4:decide ((i:Int)<(ts.length:Int))=true:=by simp;omega
  obtain h0 | ⟨b1,o1,rfl,hb1,hc1⟩:=HR.out
  ·omega
  have hz9:=u8_get HW.out.1 hi;obtain ⟨tn,htn,ht4⟩:=tmod4 hz9.1;have G2:=HG.out.own F Bz;have x1:=G2.cell (hc1 i hi) Bo;have hE:=hz.run ht4 HC.out (show i<30 by have:=HL.out;omega);have HE:=Lib.hid hE;have HF:=Lib.hid (And.intro A (And.intro ow F));have HI:=Lib.hid (And.intro hi (And.intro htn ht4));have HX:=Lib.hid G2;have hlm:=HW.out.2;have hl:=HL.out;have hc:=HC.out;have o7:=HO.out.kept F (by simp;exact HN.out.2.1);obtain ⟨c0,c1,c2,c3⟩:=Pl.cells4 o7;clear hE A F G2 hc1 hz htn ow A3 o7;generalize hsk:ts.getD i 0=sk at *;have HK:=Lib.hid hsk;clear hsk;go_wp2_with fail;have htn2:sk % 4=(tn:Int):=HI.out.2.1;rw [htn2];clear htn2;refine (newR tn i HI.out.2.2 _).mono ?_;rintro e w4 ⟨b,rfl,hb,D,F4⟩;have hs4:=F4.size;have hwr:=HF.out.2.2.size;have hlt:=HF.out.1.lt;have hlo:=HF.out.2.1.lt;have hl2:=tabLt HT.out;have A4:=HF.out.1.kept F4 Bo Bo;have o4:=HF.out.2.1.up F4;have D4:=HF.out.2.2.then F4;have hn:=HN.out;have HN2:=Lib.hid (show (b≠p∧b≠q∧b≠bw)∧1≠b∧wa.heap.size≤b by omega);have T4:=Gp.tab_kept HT.out D4 (by simp;exact HN.out.1);have HQ:=Lib.hid (And.intro o4 (And.intro D4 T4));clear hs4 hwr hlt hlo hl2 o4 D4 T4 c0 c1 c2 c3 x1 hb F4 hn HF;go_wp2_with fail;go_loopw [13] (KcR w4 b p q (yR tn i) s) (fun v _=>20 - (intOf v).toNat);case atStart=>exact ⟨0,rfl,by omega,D,A4,Fr.refl _ _⟩
  ·skip;obtain ⟨k,rfl,hk5,D2,A2,F2⟩:=hrel;have HS:=Lib.hid (kstep_any (run_ln (y:=yR tn i) (s:=s) C8 k) (Gp.tab_kept HQ.out.2.2 F2 (by simp;exact ⟨HN2.out.2.1,HN.out.1.1,HN.out.1.2.1⟩)) D2 A2 ⟨HN2.out.1.1,HN2.out.1.2.1⟩ ⟨HN.out.1.1,HN.out.1.2.1⟩);have HF:=Lib.hid F2;have g9:decide ((k:Int)<9)=true:=by simp;omega
   clear D2 A2 F2 D A4;go_wp2_with fail;refine HS.out.mono ?_;rintro e w5 ⟨rfl,D3,A3,F3⟩;have HF4:=Lib.hid (HF.out.trans F3);clear HF F3;by_cases hk:k<4
   ·have g8:decide (((runC k (yR tn i) s).1.go (runC k (yR tn i) s).2).1.ln=5)=false:=by have:=HE.out.on (k+1) Bn;simp;show ¬ (runC (k+1) (yR tn i) s).1.ln=5;rw [this];omega
    exact Am
   ·obtain rfl:k=4:=by omega
    have g8:decide (((runC 4 (yR tn i) s).1.go (runC 4 (yR tn i) s).2).1.ln=5)=true:=by simp;exact HE.out.off
    have D5:KcIs w5 b (runC 5 (yR tn i) s).1:=D3;have A5:Ar w5 p q (runC 5 (yR tn i) s).2:=A3;have HA:=Lib.hid A5;have HV:=Lib.hid (ver_any (o:=0) D5 rfl);rw [HE.out.ver,HE.out.err] at HV;have HZ:=Lib.hid HE.out.nx;generalize (runC 5 (yR tn i) s).2=se at *;clear D3 A3 D5 A5;go_wp2_with fail;clear HS g8;refine HV.out.mono ?_;rintro e w6 ⟨rfl,F6⟩;rw [show Pl.errv 0 = .nilIface from rfl];have FF:=HF4.out.then F6;have A6:=HA.out.kept F6;have o6:=HQ.out.1.kept FF (by simp;exact ⟨fun e=>HN2.out.1.2.2 e.symm,HN.out.2.2.2.1.1,HN.out.2.2.2.1.2⟩)
    have hD6:Fr [p,q,bw] wa w6:=by
     have k1:Fr [b,p,q,bw] wa w6:=(HQ.out.2.1.mono Bo).trans (FF.mono)
     exact ⟨k1.os,k1.tape,k1.output,k1.size,fun j hj hn=>k1.block j hj (fun hm=>by
      rcases List.mem_cons.1 hm with e | e
      ·have:=HN2.out.2.2;omega
      ·exact hn e)⟩
    have HP:=Lib.hid (And.intro A6 (And.intro o6 hD6));clear FF HF4 F6 HV HA A6 o6 hD6;have hi9:=HI.out.1;go_wp2_with fail;refine (claim_any _ _ _).mono ?_;rintro e w7 ⟨rfl,rfl⟩;have hc9:=HP.out.2.1.cell (G4_get g HI.out.2.2);have hz9:=HP.out.2.1.frozen tn;have ht9:=HI.out.2.2;generalize hcw:claimW ((i:Int)+1) (ck+i+2)=cw at *;go_wp2_with fail
    have o8:Ob (w6.setCell ⟨bw,tn,none⟩ (.int .i64 cw)) bw 43 (G4 (upG g tn cw)):=by have:=Ob.set (i:=tn) HP.out.2.1 (.int .i64 cw);rw [G4_set g HI.out.2.2] at this;exact this
    have F8:Fr [bw] w6 (w6.setCell ⟨bw,tn,none⟩ (.int .i64 cw)):=Fr.setCell (S:=[bw]) (b:=bw) _ Bo;generalize (w6.setCell ⟨bw,tn,none⟩ (.int .i64 cw))=w8 at *;have A8:=HP.out.1.kept F8 (by simp;exact HN.out.2.2.2.1.1.symm) (by simp;exact HN.out.2.2.2.1.2.symm);have D8:Fr [p,q,bw] wa w8:=HP.out.2.2.trans (F8.mono);have HP8:=Lib.hid (And.intro A8 (And.intro o8 D8));clear A8 o8 D8 F8 hc9 hz9 HP;go_wp2_with fail;go_loopw [16] (RjR w8) (fun v _=>20 - (intOf v).toNat);case atStart=>exact ⟨0,rfl,by omega,Fr.refl _ _⟩
    ·skip;obtain ⟨j,rfl,hj4,F9⟩:=hrel;have A9:=HP8.out.1.kept F9 Bo Bo;have o9:=HP8.out.2.1.up F9;have D9:=HP8.out.2.2.then F9;have HP9:=Lib.hid (And.intro A9 (And.intro o9 D9));have HF9:=Lib.hid F9;by_cases hj:j<4
     ·have g7:decide ((j:Int)<4)=true:=by simp;omega
      have hpe:=HZ.out.psa j hj;have cj:=In.cell (o9.cell (G4_get (upG g tn cw) hj));have HPS:=Lib.hid (fun wz=>Pl.psa_any (j:Int) Bn Bn wz)
      have HPK:=Lib.hid (show ∀ wz,Fr [] wr wz→Calls Tryd.prog 16 #[.pointer (some ⟨p,0,none⟩),.int .i64 (3+j)] wz fun e w'=>e = .returned (.int .i64 (upG g tn cw j))∧wz=w' from fun wz Fz=>by
       have:=peek_any wz p q _ (3+(j:Int)) (A9.kept Fz)
       rw [hpe] at this
       exact this)
      generalize upG g tn cw j=gv at *;have g6:(gv != gv)=false:=by simp
      clear A9 o9 D9 F9 hpe;go_wp2_with fail;refine wiq ?_;repeat (go_big_quiet_step ((first | (go_at_call 17;exact Calls.in_same (HPS.out _)) | (go_at_call 16;exact Calls.in_same (HPK.out _ (In.fr _))))))
      refine wpQuiet_nil ?_;intro w10 F10;clear cj;go_wp2_with fail;go_roundw;case rel=>exact ⟨j+1,by simp,by omega,HF9.out.trans F10⟩
      case measure=>simp [intOf];omega
     ·obtain rfl:j=4:=by omega
      clear A9 o9 D9 F9;go_wp2_with fail;go_roundw;case rel=>exact ⟨i+1,_,_,by simp,by omega,HZ.out,HP9.out.1,HP9.out.2.1,HP9.out.2.2⟩
      case measure=>simp [intOf];omega
end Go.Proofs.YtofanejchncepaaDoor.Kc
namespace Go.Proofs.YtofanejchncepaaDoor.claimRises
open Go.ChangeShapes Go.WideShapes Go.ChangeAt Go.RowKit Go.Deep
theorem own:ownKnob Tryd.prog.godebug=none:=by kernel_rfl
theorem laidOut:laidOutB Tryd.prog=true:=by kernel_rfl
theorem readable:Tryd.f4.params.toList.all (fun t=>Tryd.prog.readableRec t && decide (t<Tryd.prog.types.size))=true:=by kernel_rfl
theorem contract (H:Type) (enc:TypeId×Value→H) (W:World) (base:Nat) (args:Array Value) (ds gs:List (DataW H)) (before:List MemPlace)
  (hval:∀ (j:Nat) t v,Tryd.f4.params[j]? = some t→args[j]? = some v→Value.okWide Tryd.prog W .any base t v)
  (hW:DataW.Whole enc Tryd.prog Tryd.f4.params.toList Rows.claimRisesSpec.vars false W args.toList ds gs before) (hL:laidMet Tryd.prog Rows.claimRisesRow.laid W) :
  Calls Tryd.prog 4 args W fun e W'=>∃ v,e = .returned v∧Rows.claimRisesSpec.post enc Tryd.prog Tryd.f4 false true false false W args v W':=by
 have hW':=hW;obtain ⟨p,q,hA0,hV,rfl,hfz,hnd⟩:=hW;have hA:DataW.TrodAll enc Tryd.prog W 0 (fun _=>true) true Tryd.f4.params.toList args.toList ds p:=hA0;rw [Tryd.params4] at hA hval;obtain ⟨v0,vs0,d0,ds0,p0,q0,hargs,rfl,rfl,h0,r0⟩:=trodAll_cons hA;obtain ⟨v1,vs1,d1,ds1,p1,q1,rfl,rfl,rfl,h1,r1⟩:=trodAll_cons r0;obtain ⟨rfl,rfl,rfl⟩:=trodAll_nil r1;obtain rfl:args = #[v0,v1]:=by cases args;simp_all
 obtain ⟨rfl,rfl⟩:=trodVars_none hV;obtain ⟨z0,hI0⟩:=Law.open_intsL (k:=.u8) Tryd.underlying33 Tryd.underlying5 Bm (hval 0 33 v0 rfl rfl) h0;obtain ⟨a1,rfl,rfl,rfl,w1⟩:=open_int Tryd.underlying22 (hval 1 22 v1 rfl rfl) h1;clear hA0;refine (Kc.rises13_any v0 z0 a1 W (Word.tab_of (by simp [Rows.claimRisesRow]) hL) hI0 (by have:=bounds_u16 w1;omega)).mono fun e W' ⟨he,hd⟩=>?_
 exact Ao
theorem laid_met (os:Os):laidMet Tryd.prog Rows.claimRisesRow.laid ((World.laidAll Tryd.prog os Rows.claimRisesRow.laid).forCall (fun _ _=>0) ⟨#[],#[Value.slice none 0 0,.int .u16 0],[]⟩).memory :=
 laidMet_laidAll _ Bm Bm
theorem reads (os:Os) {H:Type} (enc:TypeId×Value→H):∃ places,DataW.whole enc Tryd.prog ((World.laidAll Tryd.prog os Rows.claimRisesRow.laid).forCall (fun _ _=>0) ⟨#[],#[Value.slice none 0 0,.int .u16 0],[]⟩).memory Tryd.f4.params.toList Rows.claimRisesSpec.vars false (#[Value.slice none 0 0,.int .u16 0]:Array Value).toList 8=some ([.nil,.lit (.int .u16 0)],[],places) :=
 ⟨[],by kernel_rfl⟩
theorem lifted (os:Os) (started:os.Started) (H:Type) (enc:TypeId×Value→H) (F:Stop.Interp) :
  ReturnsInHanded {} Tryd.checked os 4 .any ((OpenSpec.ofChange Rows.claimRisesSpec).preRow enc Tryd.prog Tryd.f4 Rows.claimRisesRow.domain false Rows.claimRisesRow.laid) (((OpenSpec.ofChange Rows.claimRisesSpec).at F).post enc Tryd.prog Tryd.f4 false true false false):=by
 obtain ⟨places,hx⟩:=reads os enc
 refine returnsInHanded_of_row (C:=Tryd.checked) (s:=OpenSpec.ofChange Rows.claimRisesSpec) own started Bm Tryd.func4
  (witness_row_at (enc:=enc) (C:=Tryd.checked) false (World.laidAll Tryd.prog os Rows.claimRisesRow.laid) #[Value.slice none 0 0,.int .u16 0] rfl Bm Bm Bm
   (OpenSpec.preRow_of_cond 8 hx Bm (fun k hk=>by cases hk) Bm (laid_met os))) ?_
 exact Ap
theorem said:Rows.ClaimRisesSaid :=
 OpenClaim.holds_of_cond 4 Tryd.f4 rfl rfl rfl rfl rfl rfl rfl ⟨rfl,rfl,rfl,rfl,rfl⟩ rfl rfl rfl rfl rfl Bm Tryd.func4 Bm
  (of_decide_eq_true Bm) Bq
  (fun os started H enc _ F=>by rw [OpenClaim.pre_eq_preRow];exact lifted os started H enc F)
theorem plain (f : FuncId) (fn : Func) (hf : Tryd.pinned.checked.prog.funcNamed "armillary/armillarylaw13.ClaimRises" = some f) (hfn : Tryd.pinned.checked.prog.funcs[f]? = some fn) :
  true=Tryd.pinned.checked.prog.looks []∧∀ (j:Nat) t,fn.params[j]? = some t→Tryd.pinned.checked.prog.wantsStandIn t=false:=by
 obtain rfl : f = 4 := Option.some.inj ((show Tryd.prog.funcNamed "armillary/armillarylaw13.ClaimRises" = some 4 by kernel_rfl).symm.trans hf) |>.symm;obtain rfl:fn=Tryd.f4:=(Option.some.inj (Tryd.func4.symm.trans hfn)).symm;refine ⟨by kernel_rfl,fun j t ht=>?_⟩;have all:(Tryd.f4.params.all fun t=>!(Tryd.prog.wantsStandIn t))=true:=by kernel_rfl
 exact Ak
theorem card:Rows.ClaimRisesCardSaid :=
 Claim7.holds_tied_plain_at .later [] _ _ _ _ said (fun _ h=>by cases h) Bm (fun _ h=>by cases h) claimRises_row_tie rfl ⟨rfl,rfl⟩ Bm rfl plain Bm
end Go.Proofs.YtofanejchncepaaDoor.claimRises
