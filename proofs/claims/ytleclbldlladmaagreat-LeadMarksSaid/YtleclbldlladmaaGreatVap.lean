/- Parts. -/
import Derived.Test.YtleclbldlladmaaGreatVal
import Derived.Test.YtleclbldlladmaaGreatVao
set_option linter.unusedVariables false
set_option linter.unusedSimpArgs false
set_option maxRecDepth 100000
set_option maxHeartbeats 12800000
namespace Go.Proofs.YtleclbldlladmaaGreat.Mx
open Go.RowKit Ar Ref
theorem Qq (x:Ld) (b:Nat) (w:World) (h:yd w b x):Calls Tryz.prog 104 #[.pointer (some ⟨b,0,none⟩)] w fun e w'=>e = .returned (.tuple #[.int .i64 x.three.1,.int .i64 x.three.2.1,.int .i64 x.three.2.2])/\Fr [] w w':=by
 obtain ⟨c0,c1,c2,c3,c4,c5,c6,c7,c8,c9,c10,c11,c12,c13⟩:=ze h;by_cases hl:x.line=0
 ·rw [hl] at c7;cases ha:x.alone
  ·have e3:x.three=(x.l,x.n,x.after):=by unfold Ld.three;simp [hl,ha]
   rw [e3];rw [ha] at c12;go_enter Tryz.func104,Tryz.ntmps104;go_wp2_with fail;have k8:=qb c8;have k9:=qb c9;exact Cc
  have e3:x.three=(x.l,0,x.after):=by unfold Ld.three;simp [hl,ha]
  rw [e3];rw [ha] at c12;go_enter Tryz.func104,Tryz.ntmps104;go_wp2_with fail;have k8:=qb c8;exact Cc
 ·have e3:x.three=(0,0,0):=by unfold Ld.three;simp [hl]
  rw [e3];have g:(x.line != 0)=true:=by simpa using hl
  go_enter Tryz.func104,Tryz.ntmps104;go_wp2_with fail;go_ret3;exact ⟨rfl,Fr.refl _ _⟩
def FmC (f:Fm) (lb:Nat) (sp np bp pp:Option Nat):Array Value:=#[.int .i64 f.chunk,.int .i64 f.part,.pointer (some ⟨lb,0,none⟩),vg sp,vg np,.bool false,vg bp,vg pp,.int .i64 f.repl]
def Zo (w:World) (b:Nat) (f:Fm) (lb:Nat) (sp np bp pp:Option Nat):Prop:=Ob w b 158 (FmC f lb sp np bp pp)
theorem zq {w:World} {b lb:Nat} {f:Fm} {sp np bp pp:Option Nat} (h:Zo w b f lb sp np bp pp):w.cell? ⟨b,0,none⟩=some (.int .i64 f.chunk)/\w.cell? ⟨b,1,none⟩=some (.int .i64 f.part)/\w.cell? ⟨b,2,none⟩=some (.pointer (some ⟨lb,0,none⟩))/\w.cell? ⟨b,3,none⟩=some (vg sp)/\w.cell? ⟨b,4,none⟩=some (vg np)/\w.cell? ⟨b,5,none⟩=some (.bool false)/\w.cell? ⟨b,6,none⟩=some (vg bp)/\w.cell? ⟨b,7,none⟩=some (vg pp)/\w.cell? ⟨b,8,none⟩=some (.int .i64 f.repl) :=
 ⟨h.cell rfl,h.cell rfl,h.cell rfl,h.cell rfl,h.cell rfl,h.cell rfl,h.cell rfl,h.cell rfl,h.cell rfl⟩
theorem Xh (f:Fm) (c:Cf) (hc:c.Ok) (repl:Int) (b lb:Nat) (sp np bp pp:Option Nat) (w:World) (h:Zo w b f lb sp np bp pp) (hl:yd w lb f.l) :
  Calls Tryz.prog 107 #[.pointer (some ⟨b,0,none⟩),c.val,.int .i64 repl] w fun e w'=>e = .returned (.tuple #[])/\(∃ pb,w.heap.size<=pb/\Zo w' b (f.splice c repl) lb sp np bp (some pb)/\Zm w' pb (Sp.new c f.l.three.1 f.l.three.2.1 repl))/\Fr [b] w w':=by
 unfold Cf.val;have F0:=(Fr.refl [] w).alloc (.cells #[.int .i64 c.t,.int .i64 c.c,.int .i64 c.wd,.int .i64 c.v] 23);have o0:=Ob.new w 23 #[.int .i64 c.t,.int .i64 c.c,.int .i64 c.wd,.int .i64 c.v];have h0:=Ob.up h F0;have l0:=Ob.up hl F0;obtain ⟨c0,c1,c2,c3,c4,c5,c6,c7,c8⟩:=zq h0;have z:=h0.frozen;have hbn:=Ob.lt h;have hbe:¬ b=w.heap.size:=by omega
 clear h hl;go_enter Tryz.func107,Tryz.ntmps107;go_wp2_with fail;generalize (w.alloc (.cells #[.int .i64 c.t,.int .i64 c.c,.int .i64 c.wd,.int .i64 c.v] 23))=w0 at *;generalize hq:w.heap.size=q at *;have HQ:=q9 hq;clear c0 c1 c2 c3 c4 c5 c6 c7 c8 z hq;refine (Qq f.l lb w0 l0).mono ?_;rintro e w1 ⟨rfl,F1⟩;have h1:=Ob.up h0 F1;have o1:=Ob.up o0 F1;have D1:=F0.trans F1;obtain ⟨c0,c1,c2,c3,c4,c5,c6,c7,c8⟩:=zq h1;have z:=h1.frozen;obtain ⟨d0,d1,d2,d3⟩:=Pl.yu o1;clear h0 o0 l0 F0 F1;go_wp2_with fail;clear c0 c1 c2 c3 c4 c5 c6 c7 c8 z d0 d1 d2 d3;refine (Ud c f.l.three.1 f.l.three.2.1 repl _).mono ?_;rintro e w2 ⟨pb,rfl,hpb,p2,F2⟩;have h2:=Ob.up h1 F2;have D2:=D1.trans F2;have HPB:=q9 (qh D1.size hpb);obtain ⟨c0,c1,c2,c3,c4,c5,c6,c7,c8⟩:=zq h2;have z:=h2.frozen;have hne:¬ b=pb:=by have:=Ob.lt h1;omega
 clear h1 o1 D1 F2 hpb;go_wp2_with fail;go_end0;refine ⟨rfl,⟨pb,?_,Ob.set (Ob.set (Ob.set h2 (i:=8) _) (i:=1) _) (i:=7) _,Ob.other (Ob.other (Ob.other p2 (Ne.symm hne) _) (Ne.symm hne) _) (Ne.symm hne) _⟩,(((D2.mono).trans (Fr.setCell _ Lc)).setCell' _ Lc).setCell' _ Lc⟩;exact HPB.out
theorem Rh (x:Nd) (hl:x.line=0) (b:Nat) (w:World) (h:Vg w b x):Calls Tryz.prog 132 #[.pointer (some ⟨b,0,none⟩)] w fun e w'=>e = .returned x.lv/\w'=w:=by obtain ⟨c0,c1,c2,c3,c4,c5,c6,c7,c8⟩:=xh h;rw [hl] at c5;go_enter Tryz.func132,Tryz.ntmps132;exact Ct
theorem R9 (c:Cf) (chunk mate after:Int) (vs:List Int) (vv:Value) (w:World) (hV:Sq fI w vv vs) (hlt:∀ k,k∈vv.ownBlock.toList->k<w.heap.size) :
  Calls Tryz.prog 131 #[c.val,.int .i64 chunk,.int .i64 mate,.int .i64 after,vv] w fun e w'=>∃ b B,e = .returned (.pointer (some ⟨b,0,none⟩))/\w.heap.size<=b/\Ra w' B b (Bd.new c chunk mate after vs)/\(∀ k,k∈B->k∈vv.ownBlock.toList\/w.heap.size<=k)/\Fr [] w w':=by
 obtain ⟨av,cv,rfl,hcv,hmv,-⟩:=id hV;unfold Cf.val;have F0:=(Fr.refl [] w).alloc (.cells #[.int .i64 c.t,.int .i64 c.c,.int .i64 c.wd,.int .i64 c.v] 23);obtain ⟨c0,c1,c2,c3⟩:=Pl.yu (Go.heap_alloc_new w (.cells #[.int .i64 c.t,.int .i64 c.c,.int .i64 c.wd,.int .i64 c.v] 23));go_enter Tryz.func131,Tryz.ntmps131;go_wp2;go_ret;have ho:Q8 _ (w.heap.size+1) (Bd.new c chunk mate after vs) (.slice av vs.length cv) (.slice none 0 0) (.slice none 0 0) (.slice none 0 0):=Ob.newAt (Yr w (.cells #[.int .i64 c.t,.int .i64 c.c,.int .i64 c.wd,.int .i64 c.v] 23)) _ _;have F1:=F0.alloc (.cells ((Bd.new c chunk mate after vs).cells (.slice av vs.length cv) (.slice none 0 0) (.slice none 0 0) (.slice none 0 0)) 167)
 have hr:∀ k,k∈Qv (.slice av vs.length cv) (.slice none 0 0) (.slice none 0 0) []->k∈(Value.slice av vs.length cv).ownBlock.toList:=by
  intro k hk;rcases zx.1 hk with hk | hk | ⟨s,hs,hk⟩ | hk
  ·exact hk
  ·simp [Value.ownBlock] at hk
  ·simp at hs
  ·simp [Value.ownBlock] at hk
 refine ⟨_,_,rfl,by omega,⟨_,_,_,_,[],⟨ho,hV.up F1,⟨rfl,.inl ⟨rfl,rfl⟩⟩,Sq.nil _,⟨rfl,fun i s g e=>by simp at e⟩,Sq.nil _,by simp [Value.ownBlock],fun hi=>?_,fun k hk=>by simp [Value.ownBlock] at hk,fun k hk=>?_⟩,rfl⟩,fun k hk=>?_,F1⟩
 ·have:=hlt _ (hr _ hi);omega
 ·exact qj (hlt _ (hr _ hk)) F1.size
 ·rcases List.mem_cons.1 hk with rfl | hk
  ·exact .inr Lb
  rcases List.mem_append.1 hk with hk | hk
  ·simp [Value.ownBlock] at hk
  exact .inl (hr k hk)
def fP (b:Nat):List Value:=[.pointer (some ⟨b,0,none⟩)]
theorem V7:Lays fP 1:=⟨fun _=>rfl,fun x u hu=>by rw [List.mem_singleton.1 hu];rfl,by decide⟩
theorem fpI:(Tryz.prog.info? 151).map (fun i=>(i.zero,i.size,i.bytes))=some (some (.pointer none),1,8):=by kernel_rfl
def MdC (m:Md) (dv fv:Value):Array Value:=#[.int .i64 m.c.t,.int .i64 m.c.c,.int .i64 m.c.wd,.int .i64 m.c.v,dv,fv,.int .i64 m.e]
def Z4 (w:World) (b:Nat) (m:Md) (dv fv:Value):Prop:=Ob w b 134 (MdC m dv fv)
theorem zk {w:World} {b:Nat} {m:Md} {dv fv:Value} (h:Z4 w b m dv fv):w.cell? ⟨b,0,none⟩=some (.int .i64 m.c.t)/\w.cell? ⟨b,1,none⟩=some (.int .i64 m.c.c)/\w.cell? ⟨b,2,none⟩=some (.int .i64 m.c.wd)/\w.cell? ⟨b,3,none⟩=some (.int .i64 m.c.v)/\w.cell? ⟨b,4,none⟩=some dv/\w.cell? ⟨b,5,none⟩=some fv/\w.cell? ⟨b,6,none⟩=some (.int .i64 m.e) :=
 ⟨h.cell rfl,h.cell rfl,h.cell rfl,h.cell rfl,h.cell rfl,h.cell rfl,h.cell rfl⟩
theorem q5q {ds:List Int} (h:ds.length=0):J9 ds=false:=by rw [List.eq_nil_of_length_eq_zero h];rfl
theorem q8b {ds:List Int} {d:Int} (h:ds[0]? = some d):J9 ds=decide (bits .and .i64 d 1=1):=by
 cases ds with
 | nil=>simp at h
 | cons a r=>simp at h;rw [h];rfl
theorem Wj (m:Md) (hc:m.c.Ok) (chunk:Int) (b:Nat) (dv fv:Value) (fbs:List Nat) (w:World) (h:Z4 w b m dv fv) (hD:Sq fI w dv m.draws) (hF:Sq fP w fv fbs) (hlen:fbs.length<=10000000) :
  Calls Tryz.prog 115 #[.pointer (some ⟨b,0,none⟩),.int .i64 chunk] w fun e w'=>e = .returned (.tuple #[])/\(∃ fv' fb lb,Z4 w' b m dv fv'/\Sq fP w' fv' (fbs++[fb])/\Zo w' fb (Fm.new m.c chunk (J9 m.draws)) lb none none none none/\yd w' lb (Ld.new m.c chunk (J9 m.draws))/\w.heap.size<=fb/\w.heap.size<=lb/\fb≠lb/\(∀ k,k∈fv'.ownBlock.toList->w.heap.size<=k/\k<w'.heap.size/\k≠fb/\k≠lb))/\Fr [b] w w':=by
 obtain ⟨ad,cd,rfl,hcd,hmd,-⟩:=id hD;obtain ⟨af,cf,rfl,hcf,hmf,-⟩:=id hF;generalize hdr:J9 m.draws=dr;have HDR:=q9 hdr;clear hdr;have HH:=q9 (qc hD hF);clear hD hF;obtain ⟨c0,c1,c2,c3,c4,c5,c6⟩:=zk h;by_cases hz:m.draws.length=0
 ·have hd2:dr=false:=by rw [<- HDR.out];exact q5q hz
  have hzz:((m.draws.length:Nat):Int)=0:=by omega
  clear hz;subst hd2;go_enter Tryz.func115,Tryz.ntmps115;go_wp2_with fail;clear hzz;clear c0 c1 c2 c3 c4 c5 c6;refine qp Le ?_;refine za [] w #[true,true,true,true,true,true,true,true,true,true,true,true,true,true,true,true,true,true,false,false,false] 18 3 rfl ?_;refine lpq [true,true,true,true,true,false,true,true,true,true,true,true,true,false,false,false,false,false,false,false,false] 6 ((Fr.refl _ _).drew) ?_;apply qg;refine ⟨fun wf Ff=>?_,?_⟩
  ·obtain ⟨c0,c1,c2,c3,-,c5,-⟩:=zk (Ob.up h Ff);have j0:=qb c0;have j1:=qb c1;have j2:=qb c2;have j3:=qb c3;have j5:=qb c5;clear c0 c1 c2 c3 c5;exact Ab
  refine loq 5 (fun w1 F1=>?_);have G:=((Fr.refl [] w).drew).trans F1;clear F1;go_wp2_with (at_builtin;go_loud (refine qq V7 rfl _ _ 132 rfl Tryz.underlying132 fpI rfl (B:=w.heap.size) (.slice none 0 0) [] rfl ⟨rfl,.inl ⟨rfl,rfl⟩⟩ _ fbs rfl (HH.out.2.up G) Ll Lg G.size ?_);intro a2 k2 w2 r2 F2);replace G:=G.trans (F2.mono Lp);rw [List.nil_append] at r2;clear F2;refine ql ⟨G,?_⟩;refine loq 13 (fun w3 F3=>?_);have r3:=qo r2 F3;replace G:=G.trans F3;clear F3 r2;go_wp2_with fail;refine (Vf m.c chunk false w3).mono ?_;rintro e w4 ⟨lb,rfl,hlb,l4,F4⟩;have r4:=qo r3 F4;have HLB:=q9 (qh G.size hlb);replace G:=G.trans F4;clear F4 r3 hlb;go_wp2_with fail;refine ql ⟨G,?_⟩;refine loq 14 (fun w5 F5=>?_);have r5:=qo r4 F5;have l5:=Ob.up l4 F5;replace G:=G.trans F5;clear F5 r4 l4;go_wp2_with fail;refine ql ⟨G,?_⟩;refine loq 15 (fun w6 F6=>?_);have r6:=qo r5 F6;have l6:=Ob.up l5 F6;replace G:=G.trans F6;clear F6 r5 l5;go_wp2_with fail;have F7:=(Fr.refl [] w6).alloc (.cells #[.int .i64 chunk,.int .i64 1,.pointer (some ⟨lb,0,none⟩),.pointer none,.pointer none,.bool false,.pointer none,.pointer none,.int .i64 0] 158);have o7:=Ob.new w6 158 #[.int .i64 chunk,.int .i64 1,.pointer (some ⟨lb,0,none⟩),.pointer none,.pointer none,.bool false,.pointer none,.pointer none,.int .i64 0];have r7:=qo r6 F7;have l7:=Ob.up l6 F7;have HLF:=q9 (qc (Ob.lt l6) (qc G.size (Zk r6)));replace G:=G.trans F7;generalize (w6.alloc (.cells #[.int .i64 chunk,.int .i64 1,.pointer (some ⟨lb,0,none⟩),.pointer none,.pointer none,.bool false,.pointer none,.pointer none,.int .i64 0] 158))=w7 at *;generalize w6.heap.size=fb at *;clear F7 r6 l6;refine ql ⟨G,?_⟩;refine loq 16 (fun w8 F8=>?_);have r8:=qo r7 F8;have l8:=Ob.up l7 F8;have o8:=Ob.up o7 F8;replace G:=G.trans F8;clear F8 r7 l7 o7;go_wp2_with fail;have F9:=(Fr.refl [] w8).alloc (.cells #[.pointer (some ⟨fb,0,none⟩)] 151);have B9:=Go.heap_alloc_new w8 (.cells #[.pointer (some ⟨fb,0,none⟩)] 151);have r9:=qo r8 F9;have l9:=Ob.up l8 F9;have o9:=Ob.up o8 F9;replace G:=G.trans F9;clear F9 r8 l8 o8;refine ql ⟨G,?_⟩;refine loq 17 (fun w10 F10=>?_);have r10:=qo r9 F10;have l10:=Ob.up l9 F10;have o10:=Ob.up o9 F10;have B10:=F10.heap B9 Lc;replace G:=G.trans F10;clear F10 r9 l9 o9 B9;go_wp2_with (at_builtin;go_loud (refine qq V7 rfl _ _ 132 rfl Tryz.underlying132 fpI rfl (B:=w.heap.size) _ fbs rfl r10 _ [fb] rfl (Sq.block B10 rfl rfl (Nat.le_refl _) Lm) Ll Lg G.size ?_);intro a11 k11 w11 r11 F11;generalize hT:fbs++[fb]=T at r11 ⊢);have HT:=q9 hT;have l11:=Ob.kept l10 F11 (je r10 l10 Lg);have o11:=Ob.kept o10 F11 (je r10 o10 Lg);replace G:=G.own F11 (z8 r10);clear F11 r10 l10 o10 B10 hT;refine ql ⟨G,?_⟩;refine qy (k:=18) rfl Le (fun w12 F12=>?_);have r12:=qo r11 F12;have l12:=Ob.up l11 F12;have o12:=Ob.up o11 F12;replace G:=G.trans F12;have h12:=Ob.up h G;have hbw:=Ob.lt h;clear F12 r11 l11 o11 h;have z:=h12.frozen;obtain ⟨c0,c1,c2,c3,c4,c5,c6⟩:=zk h12;have nb1:=je r12 h12 Lg;have nb2:=je r12 l12 Lg;have nb3:=je r12 o12 Lg;have HR:=q9 (qc r12 (qc l12 (qc o12 (qc h12 G))));have hbf:¬ b=fb/\¬ b=lb:=by have:=HLB.out;have:=HLF.out.2.1;omega
  clear r12 l12 o12 h12 G;go_wp2_with fail;go_end0;have SF:Fr [b] w12 (w12.setCell ⟨b,5,none⟩ (.slice a11 T.length k11)):=Fr.setCell _ Lc;refine ⟨rfl,⟨_,fb,lb,Ob.set HR.out.2.2.2.1 (i:=5) (.slice a11 T.length k11),by rw [HT.out];exact (Sq.own (f:=fP) HR.out.1).kept SF (fun k hk hi=>by simp at hi;subst hi;exact nb1 hk),Ob.other HR.out.2.2.1 (Ne.symm hbf.1) _,Ob.other HR.out.2.1 (Ne.symm hbf.2) _,HLF.out.2.1,HLB.out,by have:=HLF.out.1;omega,fun k hk=>⟨z8 HR.out.1 k Mi,qj (Zk HR.out.1 k Mi) SF.size,fun e=>nb3 Nw,fun e=>nb2 Nw⟩⟩,(HR.out.2.2.2.2.mono Lc).trans SF⟩
 ·obtain ⟨d,hd⟩:∃ d,m.draws[0]? = some d:=⟨m.draws[0]'(by omega),List.getElem?_eq_getElem _⟩;obtain ⟨gd,od,rfl,d0⟩:=Zx HH.out.1 hd;have hd2:dr=decide (bits .and .i64 d 1=1):=by rw [<- HDR.out];exact q8b hd
  have HD2:=q9 hd2;have hz0:(0:Int)<(m.draws.length:Int):=by omega
  replace d0:w.cell? ⟨gd,od,none⟩=some (.int .i64 d):=by simpa using d0
  clear hd2 hz hd;by_cases hbit:bits .and .i64 d 1=1
  focus
   have g9:(bits .and .i64 d 1 == 1)=true:=by simpa using hbit
   have HD3:dr=true:=by rw [HD2.out];simpa using hbit
   subst HD3
   clear hbit
   go_enter Tryz.func115,Tryz.ntmps115
   go_wp2_with fail
   clear hz0 d0 g9
   clear c0 c1 c2 c3 c4 c5 c6
   refine qp Le ?_
   refine za [] w #[true,true,true,true,true,true,true,true,true,true,true,true,true,true,true,true,true,true,false,false,false] 18 3 rfl ?_
   refine lpq [true,true,true,true,true,false,true,true,true,true,true,true,true,false,false,false,false,false,false,false,false] 6 ((Fr.refl _ _).drew) ?_
   apply qg
   refine ⟨fun wf Ff=>?_,?_⟩
   ·obtain ⟨c0,c1,c2,c3,-,c5,-⟩:=zk (Ob.up h Ff)
    have j0:=qb c0
    have j1:=qb c1
    have j2:=qb c2
    have j3:=qb c3
    have j5:=qb c5
    clear c0 c1 c2 c3 c5
    simp only [sel]
    repeat (go_big_quiet_step (fail))
    exact wpQuiet_nil rfl
   refine loq 5 (fun w1 F1=>?_)
   have G:=((Fr.refl [] w).drew).trans F1
   clear F1
   go_wp2_with (at_builtin;go_loud (refine qq V7 rfl _ _ 132 rfl Tryz.underlying132 fpI rfl (B:=w.heap.size) (.slice none 0 0) [] rfl ⟨rfl,.inl ⟨rfl,rfl⟩⟩ _ fbs rfl (HH.out.2.up G) Ll Lg G.size ?_);intro a2 k2 w2 r2 F2)
   replace G:=G.trans (F2.mono Lp)
   rw [List.nil_append] at r2
   clear F2
   refine ql ⟨G,?_⟩
   refine loq 13 (fun w3 F3=>?_)
   have r3:=qo r2 F3
   replace G:=G.trans F3
   clear F3 r2
   go_wp2_with fail
   refine (Vf m.c chunk true w3).mono ?_;rintro e w4 ⟨lb,rfl,hlb,l4,F4⟩
  rotate_left
  focus
   have g9:(bits .and .i64 d 1 == 1)=false:=by simpa using hbit
   have HD3:dr=false:=by rw [HD2.out];simpa using hbit
   subst HD3
   clear hbit
   go_enter Tryz.func115,Tryz.ntmps115
   go_wp2_with fail
   clear hz0 d0 g9
   clear c0 c1 c2 c3 c4 c5 c6
   refine qp Le ?_
   refine za [] w #[true,true,true,true,true,true,true,true,true,true,true,true,true,true,true,true,true,true,false,false,false] 18 3 rfl ?_
   refine lpq [true,true,true,true,true,false,true,true,true,true,true,true,true,false,false,false,false,false,false,false,false] 6 ((Fr.refl _ _).drew) ?_
   apply qg
   refine ⟨fun wf Ff=>?_,?_⟩
   ·obtain ⟨c0,c1,c2,c3,-,c5,-⟩:=zk (Ob.up h Ff)
    have j0:=qb c0
    have j1:=qb c1
    have j2:=qb c2
    have j3:=qb c3
    have j5:=qb c5
    clear c0 c1 c2 c3 c5
    simp only [sel]
    repeat (go_big_quiet_step (fail))
    exact wpQuiet_nil rfl
   refine loq 5 (fun w1 F1=>?_)
   have G:=((Fr.refl [] w).drew).trans F1
   clear F1
   go_wp2_with (at_builtin;go_loud (refine qq V7 rfl _ _ 132 rfl Tryz.underlying132 fpI rfl (B:=w.heap.size) (.slice none 0 0) [] rfl ⟨rfl,.inl ⟨rfl,rfl⟩⟩ _ fbs rfl (HH.out.2.up G) Ll Lg G.size ?_);intro a2 k2 w2 r2 F2)
   replace G:=G.trans (F2.mono Lp)
   rw [List.nil_append] at r2
   clear F2
   refine ql ⟨G,?_⟩
   refine loq 13 (fun w3 F3=>?_)
   have r3:=qo r2 F3
   replace G:=G.trans F3
   clear F3 r2
   go_wp2_with fail
   refine (Vf m.c chunk false w3).mono ?_;rintro e w4 ⟨lb,rfl,hlb,l4,F4⟩
  rotate_left
  all_goals
   have r4:=qo r3 F4
   have HLB:=q9 (qh G.size hlb)
   replace G:=G.trans F4
   clear F4 r3 hlb
   go_wp2_with fail
   refine ql ⟨G,?_⟩
   refine loq 14 (fun w5 F5=>?_)
   have r5:=qo r4 F5
   have l5:=Ob.up l4 F5
   replace G:=G.trans F5
   clear F5 r4 l4
   go_wp2_with fail
   refine ql ⟨G,?_⟩
   refine loq 15 (fun w6 F6=>?_)
   have r6:=qo r5 F6
   have l6:=Ob.up l5 F6
   replace G:=G.trans F6
   clear F6 r5 l5
   go_wp2_with fail
   have F7:=(Fr.refl [] w6).alloc (.cells #[.int .i64 chunk,.int .i64 1,.pointer (some ⟨lb,0,none⟩),.pointer none,.pointer none,.bool false,.pointer none,.pointer none,.int .i64 0] 158)
   have o7:=Ob.new w6 158 #[.int .i64 chunk,.int .i64 1,.pointer (some ⟨lb,0,none⟩),.pointer none,.pointer none,.bool false,.pointer none,.pointer none,.int .i64 0]
   have r7:=qo r6 F7
   have l7:=Ob.up l6 F7
   have HLF:=q9 (qc (Ob.lt l6) (qc G.size (Zk r6)))
   replace G:=G.trans F7
   generalize (w6.alloc (.cells #[.int .i64 chunk,.int .i64 1,.pointer (some ⟨lb,0,none⟩),.pointer none,.pointer none,.bool false,.pointer none,.pointer none,.int .i64 0] 158))=w7 at *
   generalize w6.heap.size=fb at *
   clear F7 r6 l6
   refine ql ⟨G,?_⟩
   refine loq 16 (fun w8 F8=>?_)
   have r8:=qo r7 F8
   have l8:=Ob.up l7 F8
   have o8:=Ob.up o7 F8
   replace G:=G.trans F8
   clear F8 r7 l7 o7
   go_wp2_with fail
   have F9:=(Fr.refl [] w8).alloc (.cells #[.pointer (some ⟨fb,0,none⟩)] 151)
   have B9:=Go.heap_alloc_new w8 (.cells #[.pointer (some ⟨fb,0,none⟩)] 151)
   have r9:=qo r8 F9
   have l9:=Ob.up l8 F9
   have o9:=Ob.up o8 F9
   replace G:=G.trans F9
   clear F9 r8 l8 o8
   refine ql ⟨G,?_⟩
   refine loq 17 (fun w10 F10=>?_)
   have r10:=qo r9 F10
   have l10:=Ob.up l9 F10
   have o10:=Ob.up o9 F10
   have B10:=F10.heap B9 Lc
   replace G:=G.trans F10
   clear F10 r9 l9 o9 B9
   go_wp2_with (at_builtin;go_loud (refine qq V7 rfl _ _ 132 rfl Tryz.underlying132 fpI rfl (B:=w.heap.size) _ fbs rfl r10 _ [fb] rfl (Sq.block B10 rfl rfl (Nat.le_refl _) Lm) Ll Lg G.size ?_);intro a11 k11 w11 r11 F11;generalize hT:fbs++[fb]=T at r11 ⊢)
   have HT:=q9 hT
   have l11:=Ob.kept l10 F11 (je r10 l10 Lg)
   have o11:=Ob.kept o10 F11 (je r10 o10 Lg)
   replace G:=G.own F11 (z8 r10)
   clear F11 r10 l10 o10 B10 hT
   refine ql ⟨G,?_⟩
   refine qy (k:=18) rfl Le (fun w12 F12=>?_)
   have r12:=qo r11 F12
   have l12:=Ob.up l11 F12
   have o12:=Ob.up o11 F12
   replace G:=G.trans F12
   have h12:=Ob.up h G
   have hbw:=Ob.lt h
   clear F12 r11 l11 o11 h
   have z:=h12.frozen
   obtain ⟨c0,c1,c2,c3,c4,c5,c6⟩:=zk h12
   have nb1:=je r12 h12 Lg
   have nb2:=je r12 l12 Lg
   have nb3:=je r12 o12 Lg
   have HR:=q9 (qc r12 (qc l12 (qc o12 (qc h12 G))))
   have hbf:¬ b=fb/\¬ b=lb:=by have:=HLB.out;have:=HLF.out.2.1;omega
   clear r12 l12 o12 h12 G
   go_wp2_with fail
   go_end0
   have SF:Fr [b] w12 (w12.setCell ⟨b,5,none⟩ (.slice a11 T.length k11)):=Fr.setCell _ Lc
   refine ⟨rfl,⟨_,fb,lb,Ob.set HR.out.2.2.2.1 (i:=5) (.slice a11 T.length k11),by rw [HT.out];exact (Sq.own (f:=fP) HR.out.1).kept SF (fun k hk hi=>by simp at hi;subst hi;exact nb1 hk),Ob.other HR.out.2.2.1 (Ne.symm hbf.1) _,Ob.other HR.out.2.1 (Ne.symm hbf.2) _,HLF.out.2.1,HLB.out,by have:=HLF.out.1;omega,fun k hk=>⟨z8 HR.out.1 k Mi,qj (Zk HR.out.1 k Mi) SF.size,fun e=>nb3 Nw,fun e=>nb2 Nw⟩⟩,(HR.out.2.2.2.2.mono Lc).trans SF⟩
end Go.Proofs.YtleclbldlladmaaGreat.Mx
