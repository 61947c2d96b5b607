/- Texts that this proof leans on, one behind the other: Need, Splice. -/
import Derived.Test.YtilipdnchflkhaaGreatDoorVat
set_option linter.unusedVariables false
set_option linter.unusedSimpArgs false
set_option maxRecDepth 100000
set_option maxHeartbeats 12800000
namespace Go.Proofs.YtilipdnchflkhaaGreatDoor.Mx
open Go.RowKit Go.Proofs.YtilipdnchflkhaaGreatDoor.Ar Go.Proofs.YtilipdnchflkhaaGreatDoor.Ref
structure Nd where
 c:Cf
 t:Int
 line:Int
 e:Int
 v:Int
 lv:Value
 l:List Int
def Nd.cells (x:Nd):Array Value:=#[.int .i64 x.c.t,.int .i64 x.c.c,.int .i64 x.c.wd,.int .i64 x.c.v,.int .i64 x.t,.int .i64 x.line,.int .i64 x.e,.int .i64 x.v,x.lv]
def NdAt (w:World) (b:Nat) (x:Nd):Prop:=Ob w b 300 x.cells
theorem nd2_cells {w:World} {b:Nat} {x:Nd} (h:NdAt w b x):w.cell? ⟨b,0,none⟩=some (.int .i64 x.c.t)∧w.cell? ⟨b,1,none⟩=some (.int .i64 x.c.c)∧w.cell? ⟨b,2,none⟩=some (.int .i64 x.c.wd)∧w.cell? ⟨b,3,none⟩=some (.int .i64 x.c.v)∧w.cell? ⟨b,4,none⟩=some (.int .i64 x.t)∧w.cell? ⟨b,5,none⟩=some (.int .i64 x.line)∧w.cell? ⟨b,6,none⟩=some (.int .i64 x.e)∧w.cell? ⟨b,7,none⟩=some (.int .i64 x.v)∧w.cell? ⟨b,8,none⟩=some (x.lv) :=
 ⟨h.cell rfl,h.cell rfl,h.cell rfl,h.cell rfl,h.cell rfl,h.cell rfl,h.cell rfl,h.cell rfl,h.cell rfl⟩
def Nd.pa (x:Nd):Int:=psaP x.t
def Nd.base (x:Nd):NdB:=⟨x.c,x.t,x.line,x.e,x.v,x.l⟩
def Nd.on (x:Nd):Nd:=if x.c.t≤x.t+1 then { x with t:=x.t+1,line:=0 } else { x with t:=x.t+1,line:=1 }
def Nd.met (x:Nd) (v:Int):Nd:={ x with l:=ins x.l v }
def Nd.live (x:Nd):Bool:=decide (1≤x.line) && decide (x.line≤4)
def Nd.act (x:Nd) (s:St):St :=
 if x.line=1 then s.load x.pa else if x.line=2 then s.add 1 1 else if x.line=3 then s.swap x.pa x.e (claimW (seqW x.e) (wrap64 (x.v+2))) else s.load x.pa
def Nd.told (x:Nd) (s:St):Int:=if x.line=2 then peek s.l 1 else peek s.l x.pa
def Nd.next (x:Nd) (v:Int):Nd :=
 if x.line=1 then (if partW v=1 then { x with e:=v,line:=2 } else if 1<partW v then Nd.on (Nd.met { x with e:=v,line:=2 } (partW v - 2)) else Nd.on { x with e:=v,line:=2 })
 else if x.line=2 then { x with v:=v,line:=3 } else if x.line=3 then { x with line:=4 }
 else (if seqW v=seqW x.e∧1<partW v then Nd.on (Nd.met x (partW v - 2)) else Nd.on x)
def Nd.step (x:Nd) (s:St):Nd×St:=if x.live=true then (x.next (x.told s),x.act s) else (x,s)
theorem need_on (x:Nd) (hc:x.c.Ok) (ht:0≤x.t∧x.t≤8) (b:Nat) (w:World) (h:NdAt w b x):Calls Tryz.prog 224 #[.pointer (some ⟨b,0,none⟩)] w fun e w'=>e = .returned (.tuple #[])∧NdAt w' b x.on∧Fr [b] w w':=by
 generalize hy:x.on=y
 have HY:=Lib.hid hy
 clear hy
 obtain ⟨c0,c1,c2,c3,c4,c5,c6,c7,c8⟩:=nd2_cells h
 have z:=h.frozen
 go_enter Tryz.func224,Tryz.ntmps224
 go_wp2_with fail
 have h1:NdAt _ b { x with t:=x.t+1,line:=1 }:=Ob.set (Ob.set h (i:=4) (.int .i64 (x.t+1))) (i:=5) (.int .i64 1)
 have D1:Fr [b] w ((w.setCell ⟨b,4,none⟩ (.int .i64 (x.t+1))).setCell ⟨b,5,none⟩ (.int .i64 1)):=(Fr.setCell _ (by simp)).setCell' _ (by simp)
 clear c0 c1 c2 c3 c4 c5 c6 c7 c8 z
 generalize ((w.setCell ⟨b,4,none⟩ (.int .i64 (x.t+1))).setCell ⟨b,5,none⟩ (.int .i64 1))=w1 at *
 obtain ⟨c0,-,-,-,c4,-,-,-,-⟩:=nd2_cells h1
 have k0:=In.cell c0
 have k4:=In.cell c4
 clear c0 c4
 refine wi ?_
 repeat (go_big_quiet_step (fail))
 refine wpQuiet_nil ?_
 intro w2 F2
 have h2:=Ob.up h1 F2
 have D2:=D1.then F2
 clear h1 D1 F2 k0 k4
 obtain ⟨c0,c1,c2,c3,c4,c5,c6,c7,c8⟩:=nd2_cells h2
 have z:=h2.frozen
 by_cases hv:x.c.t≤x.t+1
 ·have hn:y = { x with t:=x.t+1,line:=0 }:=by rw [← HY.out];unfold Nd.on;simp [hv]
  subst hn
  have g:decide (x.t+1≥x.c.t)=true:=by simpa using hv
  go_wp2_with fail
  go_end0
  exact ⟨rfl,Ob.set h2 _,D2.trans (Fr.setCell _ (by simp))⟩
 ·have hn:y = { x with t:=x.t+1,line:=1 }:=by rw [← HY.out];unfold Nd.on;simp [hv]
  subst hn
  have g:decide (x.t+1≥x.c.t)=false:=by simpa using hv
  go_wp2_with fail
  go_end0
  exact ⟨rfl,h2,D2⟩
theorem newNeed_any (c:Cf) (w:World):Calls Tryz.prog 212 #[c.val] w fun e w'=>∃ b,e = .returned (.pointer (some ⟨b,0,none⟩))∧w.heap.size≤b∧NdAt w' b ⟨c,0,1,0,0,.slice none 0 0,[]⟩∧Fr [] w w':=by
 unfold Cf.val
 have F0:=(Fr.refl [] w).alloc (.cells #[.int .i64 c.t,.int .i64 c.c,.int .i64 c.wd,.int .i64 c.v] 23)
 obtain ⟨c0,c1,c2,c3⟩:=Pl.cells4 (Go.heap_alloc_new w (.cells #[.int .i64 c.t,.int .i64 c.c,.int .i64 c.wd,.int .i64 c.v] 23))
 go_enter Tryz.func212,Tryz.ntmps212
 go_wp2
 go_ret
 exact ⟨_,rfl,by omega,Ob.newAt (sizeA _ _) _ _,F0.alloc _⟩
theorem ins_ne (l:List Int) (v:Int):ins l v≠[]:=by
 cases l with
 | nil=>simp [ins]
 | cons x r=>unfold ins;split <;> (try split) <;> simp
theorem need_meets (x:Nd) (v:Int) (b:Nat) (w:World) (hl:x.l.length≤1000) (h:NdAt w b x) (hs:Sq fI w x.lv x.l) (hb:b∉x.lv.ownBlock.toList) :
  Calls Tryz.prog 223 #[.pointer (some ⟨b,0,none⟩),.int .i64 v] w fun e w'=>e = .returned (.tuple #[])∧(∃ lv',NdAt w' b { x.met v with lv:=lv' } ∧ Sq fI w' lv' (x.met v).l∧(lv'=x.lv∨((x.met v).l≠[]∧∀ g,g∈lv'.ownBlock.toList→w.heap.size≤g)))∧Fr [b] w w' :=
 (need_met x.base v b x.lv w hl h hs hb).mono fun e w' ⟨h1,⟨lv',h2,h3,h4⟩,h5⟩=>⟨h1,⟨lv',h2,h3,h4.imp id (fun a=>⟨ins_ne _ _,a⟩)⟩,h5⟩
theorem need_step2 (x:Nd) (hl:x.line=2) (hc:x.c.Ok) (ht:0≤x.t∧x.t≤8) (b p q:Nat) (s:St) (w:World) (h:NdAt w b x) (hA:Rar w p q s) (hp:b≠p) (hq:b≠q) :
  Calls Tryz.prog 213 #[.pointer (some ⟨b,0,none⟩),.pointer (some ⟨p,0,none⟩)] w fun e w'=>e = .returned (.bool (decide ((x.next (peek s.l 1)).line=0)))∧NdAt w' b (x.next (peek s.l 1))∧Rar w' p q (s.add 1 1)∧Fr [b,p,q] w w':=by
 generalize hy:x.next (peek s.l 1)=y
 have HY:=Lib.hid hy
 clear hy
 obtain ⟨c0,c1,c2,c3,c4,c5,c6,c7,c8⟩:=nd2_cells h
 have z:=h.frozen
 go_enter Tryz.func213,Tryz.ntmps213
 go_wp2_with fail
 have h0:=h
 have A0:=hA
 have D0:=Fr.refl [b,p,q] w
 clear h hA
 have hw0:=Lib.hid (Eq.refl w)
 refine (Ref.psa_any x.t ht.1 ht.2 _).mono ?_;rintro e _ ⟨rfl,rfl⟩
 rw [show (3:Int)+x.t=x.pa from rfl]
 go_wp2_with fail
 have A1:=A0
 have h1:=h0
 have D1:=D0
 clear c0 c1 c2 c3 c4 c5 c6 c7 c8 z
 refine (Ref.add_any _ p q s 1 1 A1).mono ?_;rintro e w5 ⟨rfl,A5,F5⟩
 have h5:=Ob.kept h1 F5 (by simp;exact ⟨hp,hq⟩)
 have D5:=frSub D1 F5 (by simp)
 clear A1 h1 D1 F5 A0 h0 D0
 obtain ⟨c0,c1,c2,c3,c4,c5,c6,c7,c8⟩:=nd2_cells h5
 have z:=h5.frozen
 have hn:y = { x with v:=peek s.l 1,line:=3 }:=by rw [← HY.out];unfold Nd.next;simp [hl]
 subst hn
 go_wp2_with fail
 go_ret
 exact ⟨rfl,(Ob.set (Ob.set h5 (i:=7) (.int .i64 (peek s.l 1))) (i:=5) (.int .i64 3)),(Rar.set (Rar.set A5 hp hq (i:=7) (.int .i64 (peek s.l 1))) hp hq (i:=5) (.int .i64 3)),(Fr.setCell' (Fr.setCell' D5 (b:=b) (i:=7) (.int .i64 (peek s.l 1)) (by simp)) (b:=b) (i:=5) (.int .i64 3) (by simp))⟩
theorem need_step3 (x:Nd) (hl:x.line=3) (hc:x.c.Ok) (ht:0≤x.t∧x.t≤8) (b p q:Nat) (s:St) (w:World) (h:NdAt w b x) (hA:Rar w p q s) (hp:b≠p) (hq:b≠q) :
  Calls Tryz.prog 213 #[.pointer (some ⟨b,0,none⟩),.pointer (some ⟨p,0,none⟩)] w fun e w'=>e = .returned (.bool (decide ((x.next (x.told s)).line=0)))∧NdAt w' b (x.next (x.told s))∧Rar w' p q (s.swap x.pa x.e (claimW (seqW x.e) (wrap64 (x.v+2))))∧Fr [b,p,q] w w':=by
 generalize hy:x.next (x.told s)=y
 have HY:=Lib.hid hy
 clear hy
 obtain ⟨c0,c1,c2,c3,c4,c5,c6,c7,c8⟩:=nd2_cells h
 have z:=h.frozen
 go_enter Tryz.func213,Tryz.ntmps213
 go_wp2_with fail
 have h0:=h
 have A0:=hA
 have D0:=Fr.refl [b,p,q] w
 clear h hA
 have hw0:=Lib.hid (Eq.refl w)
 refine (Ref.psa_any x.t ht.1 ht.2 _).mono ?_;rintro e _ ⟨rfl,rfl⟩
 rw [show (3:Int)+x.t=x.pa from rfl]
 go_wp2_with fail
 have A1:=A0
 have h1:=h0
 have D1:=D0
 clear c0 c1 c2 c3 c4 c5 c6 c7 c8 z
 refine wp_region_env (by kernel_rfl) [p,q] (fun w2 F2=>?_)
 refine ep [true,true,true,true,true,true,true,true,true,true,true,true,true,true,true,true,true,false] 1 (F2.mono) ?_
 apply Exists.intro
 refine ⟨fun wf Ff=>?_,?_⟩
 ·have hf:NdAt wf b x:=Ob.kept h1 Ff (by simp;exact ⟨hp,hq⟩)
  obtain ⟨-,-,-,-,-,-,c6,c7,-⟩:=nd2_cells hf
  have k6:=In.cell c6
  have k7:=In.cell c7
  clear hf c6 c7
  simp only [sel]
  repeat (go_big_quiet_step ((first | (go_at_call 176;exact Calls.in_same (claim_any _ _ _)) | (go_at_call 225;exact Calls.in_same (seq_any _ _)))))
  exact wpQuiet_nil rfl
 refine eo 17 (fun w3 F3=>?_)
 have E3:=F2.trans F3
 have A3:=A1.kept E3
 have h3:=Ob.up h1 E3
 have G3:=frSub D1 E3 (by simp)
 clear F2 F3 A1 h1 D1 A0 h0 D0
 go_wp2_with fail
 refine (Ref.swap_any _ p q s _ _ _ A3).mono ?_;rintro e w4 ⟨rfl,A4,F4⟩
 have E4:=(E3.mono (T:=[p,q]) (by simp)).trans F4
 have h4:=h3.kept F4 (by simp;exact ⟨hp,hq⟩)
 have G4:=frSub G3 F4 (by simp)
 clear A3 h3 F4 G3 E3
 go_wp2_with fail
 refine nx_normal ⟨E4,?_⟩
 refine env_done (by kernel_rfl) (fun w5 F5=>?_)
 have D5:=G4.then F5
 have h5:NdAt w5 b x:=h4.up F5
 have A5:=A4.kept F5
 clear A4 h4 F5 G4 E4
 obtain ⟨c0,c1,c2,c3,c4,c5,c6,c7,c8⟩:=nd2_cells h5
 have z:=h5.frozen
 have hn:y = { x with line:=4 }:=by rw [← HY.out];unfold Nd.next;simp [hl]
 subst hn
 go_wp2_with fail
 go_ret
 exact ⟨rfl,(Ob.set h5 (i:=5) (.int .i64 4)),(Rar.set A5 hp hq (i:=5) (.int .i64 4)),(Fr.setCell' D5 (b:=b) (i:=5) (.int .i64 4) (by simp))⟩
theorem on_lv (x:Nd) (lv:Value):({ x with lv:=lv }:Nd).on = { x.on with lv:=lv }:=by unfold Nd.on;simp only;split <;> rfl
theorem on_l (x:Nd):x.on.l=x.l:=by unfold Nd.on;split <;> rfl
theorem sqK {b p q:Nat} {w w':World} {v:Value} {l:List Int} (h:Sq fI w v l) (D:Fr [b,p,q] w w') (hb:b∉v.ownBlock.toList) (hp:p∉v.ownBlock.toList) (hq:q∉v.ownBlock.toList):Sq fI w' v l :=
 h.kept D (fun g hg hi=>by simp at hi;rcases hi with rfl | rfl | rfl <;> contradiction)
theorem need_step1 (x:Nd) (hl:x.line=1) (hc:x.c.Ok) (ht:0≤x.t∧x.t≤8) (b p q:Nat) (s:St) (w:World) (h:NdAt w b x) (hA:Rar w p q s) (hp:b≠p) (hq:b≠q) (hs:Sq fI w x.lv x.l) (hb:b∉x.lv.ownBlock.toList) (hp2:p∉x.lv.ownBlock.toList) (hq2:q∉x.lv.ownBlock.toList) (hlen:x.l.length≤1000) :
  Calls Tryz.prog 213 #[.pointer (some ⟨b,0,none⟩),.pointer (some ⟨p,0,none⟩)] w fun e w'=>e = .returned (.bool (decide ((x.next (peek s.l x.pa)).line=0)))∧(∃ lv',NdAt w' b { x.next (peek s.l x.pa) with lv:=lv' } ∧ Sq fI w' lv' (x.next (peek s.l x.pa)).l∧(lv'=x.lv∨((x.next (peek s.l x.pa)).l≠[]∧∀ g,g∈lv'.ownBlock.toList→w.heap.size≤g)))∧Rar w' p q (s.load x.pa)∧Fr [b,p,q] w w':=by
 generalize hy:x.next (peek s.l x.pa)=y
 have HY:=Lib.hid hy
 clear hy
 obtain ⟨c0,c1,c2,c3,c4,c5,c6,c7,c8⟩:=nd2_cells h
 have z:=h.frozen
 go_enter Tryz.func213,Tryz.ntmps213
 go_wp2_with fail
 have h0:=h
 have A0:=hA
 have D0:=Fr.refl [b,p,q] w
 clear h hA
 have hbw:=h0.lt
 refine (Ref.psa_any x.t ht.1 ht.2 _).mono ?_;rintro e _ ⟨rfl,rfl⟩
 rw [show (3:Int)+x.t=x.pa from rfl]
 go_wp2_with fail
 have A1:=A0
 have h1:=h0
 have D1:=D0
 clear c0 c1 c2 c3 c4 c5 c6 c7 c8 z
 refine (Ref.load_any _ p q s _ A1).mono ?_;rintro e w5 ⟨rfl,A5,F5⟩
 have h5:=Ob.kept h1 F5 (by simp;exact ⟨hp,hq⟩)
 have D5:=frSub D1 F5 (by simp)
 clear A1 h1 D1 F5 A0 h0 D0
 obtain ⟨c0,c1,c2,c3,c4,c5,c6,c7,c8⟩:=nd2_cells h5
 have z:=h5.frozen
 generalize hv:peek s.l x.pa=v at *
 go_wp2_with fail
 have h6:NdAt _ b { x with e:=v,line:=2 }:=(Ob.set (Ob.set h5 (i:=6) (.int .i64 v)) (i:=5) (.int .i64 2))
 have A6:=(Rar.set (Rar.set A5 hp hq (i:=6) (.int .i64 v)) hp hq (i:=5) (.int .i64 2))
 have D6:=(Fr.setCell' (Fr.setCell' D5 (b:=b) (i:=6) (.int .i64 v) (by simp)) (b:=b) (i:=5) (.int .i64 2) (by simp))
 generalize ((w5.setCell ⟨b,6,none⟩ (.int .i64 v)).setCell ⟨b,5,none⟩ (.int .i64 2))=w6 at *
 clear c0 c1 c2 c3 c4 c5 c6 c7 c8 z
 clear h5 A5 D5
 refine (part_any _ _).mono ?_;rintro e _ ⟨rfl,rfl⟩
 have hpb:=Int.emod_nonneg v (show (16777216:Int)≠0 by decide)
 have hpw:wrap64 (partW v - 2)=partW v - 2:=by unfold partW;exact w64 (by omega) (by omega)
 generalize hpv:partW v=pv at *
 by_cases e1:pv=1
 ·have hn:y = { x with e:=v,line:=2 }:=by rw [← HY.out];unfold Nd.next;simp [hl,hpv,e1]
  subst hn
  obtain ⟨c0,c1,c2,c3,c4,c5,c6,c7,c8⟩:=nd2_cells h6
  go_wp2_with fail
  go_ret
  exact ⟨rfl,⟨x.lv,h6,sqK hs D6 hb hp2 hq2,.inl rfl⟩,A6,D6⟩
 ·have b1:(pv != 1)=true:=by simpa using e1
  by_cases e2:1<pv
  ·have hn:y=Nd.on (Nd.met { x with e:=v,line:=2 } (pv - 2)):=by rw [← HY.out];unfold Nd.next;simp [hl,hpv,e1,e2]
   subst hn
   have b2:decide (pv>1)=true:=by simpa using e2
   go_wp2_with fail
   have hlw:=D6.size
   refine (need_meets ({ x with e:=v,line:=2 }:Nd) (pv - 2) b _ hlen h6 (sqK hs D6 hb hp2 hq2) hb).mono ?_;rintro e w7 ⟨rfl,⟨lv',h7,hs7,hg7⟩,F7⟩
   have A7:=A6.kept F7 (by simp;exact hp.symm) (by simp;exact hq.symm)
   have D7:=frSub D6 F7 (by simp)
   clear h6 A6 F7 D6
   go_wp2_with fail
   refine (need_on ({ Nd.met ({ x with e:=v,line:=2 }:Nd) (pv - 2) with lv:=lv' }) hc ht b _ h7).mono ?_;rintro e w8 ⟨rfl,h8,F8⟩
   rw [on_lv] at h8
   have hb8:∀ g,g∈lv'.ownBlock.toList→g∉[b]:=fun g hg hi=>by
    rw [List.mem_singleton.1 hi] at hg
    rcases hg7 with e7 | e7
    ·rw [e7] at hg;exact hb hg
    ·have:=e7.2 b hg;have:=hbw;omega
   have hs8:=hs7.kept F8 hb8
   have A8:=A7.kept F8 (by simp;exact hp.symm) (by simp;exact hq.symm)
   have D8:=frSub D7 F8 (by simp)
   clear h7 A7 F8 D7 hs7
   obtain ⟨-,-,-,-,-,c5,-,-,-⟩:=nd2_cells h8
   go_wp2_with fail
   go_ret
   exact ⟨rfl,⟨lv',h8,by rw [on_l];exact hs8,hg7.imp id fun hh=>⟨by rw [on_l];exact hh.1,fun g hg=>by have:=hh.2 g hg;omega⟩⟩,A8,D8⟩
  have hn:y=Nd.on { x with e:=v,line:=2 }:=by rw [← HY.out];unfold Nd.next;simp [hl,hpv,e1,e2]
  subst hn
  have b2:decide (pv>1)=false:=by simpa using e2
  go_wp2_with fail
  refine (need_on ({ x with e:=v,line:=2 }:Nd) hc ht b _ h6).mono ?_;rintro e w7 ⟨rfl,h7,F7⟩
  have A7:=A6.kept F7 (by simp;exact hp.symm) (by simp;exact hq.symm)
  have D7:=frSub D6 F7 (by simp)
  clear h6 A6 F7 D6
  obtain ⟨-,-,-,-,-,c5,-,-,-⟩:=nd2_cells h7
  go_wp2_with fail
  go_ret
  exact ⟨rfl,⟨x.lv,by rw [show ({ Nd.on ({ x with e:=v,line:=2 }:Nd) with lv:=x.lv }:Nd)=Nd.on ({ x with e:=v,line:=2 }:Nd) from (on_lv ({ x with e:=v,line:=2 }:Nd) x.lv).symm];exact h7,by rw [on_l];exact sqK hs D7 hb hp2 hq2,.inl rfl⟩,A7,D7⟩
theorem need_step4 (x:Nd) (hl:x.line=4) (hc:x.c.Ok) (ht:0≤x.t∧x.t≤8) (b p q:Nat) (s:St) (w:World) (h:NdAt w b x) (hA:Rar w p q s) (hp:b≠p) (hq:b≠q) (hs:Sq fI w x.lv x.l) (hb:b∉x.lv.ownBlock.toList) (hp2:p∉x.lv.ownBlock.toList) (hq2:q∉x.lv.ownBlock.toList) (hlen:x.l.length≤1000) :
  Calls Tryz.prog 213 #[.pointer (some ⟨b,0,none⟩),.pointer (some ⟨p,0,none⟩)] w fun e w'=>e = .returned (.bool (decide ((x.next (peek s.l x.pa)).line=0)))∧(∃ lv',NdAt w' b { x.next (peek s.l x.pa) with lv:=lv' } ∧ Sq fI w' lv' (x.next (peek s.l x.pa)).l∧(lv'=x.lv∨((x.next (peek s.l x.pa)).l≠[]∧∀ g,g∈lv'.ownBlock.toList→w.heap.size≤g)))∧Rar w' p q (s.load x.pa)∧Fr [b,p,q] w w':=by
 generalize hy:x.next (peek s.l x.pa)=y
 have HY:=Lib.hid hy
 clear hy
 obtain ⟨c0,c1,c2,c3,c4,c5,c6,c7,c8⟩:=nd2_cells h
 have z:=h.frozen
 go_enter Tryz.func213,Tryz.ntmps213
 go_wp2_with fail
 have h0:=h
 have A0:=hA
 have D0:=Fr.refl [b,p,q] w
 clear h hA
 have hbw:=h0.lt
 refine (Ref.psa_any x.t ht.1 ht.2 _).mono ?_;rintro e _ ⟨rfl,rfl⟩
 rw [show (3:Int)+x.t=x.pa from rfl]
 go_wp2_with fail
 have A1:=A0
 have h1:=h0
 have D1:=D0
 clear c0 c1 c2 c3 c4 c5 c6 c7 c8 z
 refine (Ref.load_any _ p q s _ A1).mono ?_;rintro e w5 ⟨rfl,A5,F5⟩
 have h5:=Ob.kept h1 F5 (by simp;exact ⟨hp,hq⟩)
 have D5:=frSub D1 F5 (by simp)
 clear A1 h1 D1 F5 A0 h0 D0
 obtain ⟨c0,c1,c2,c3,c4,c5,c6,c7,c8⟩:=nd2_cells h5
 have z:=h5.frozen
 generalize hv:peek s.l x.pa=v at *
 have hpb:=Int.emod_nonneg v (show (16777216:Int)≠0 by decide)
 have hpw:wrap64 (partW v - 2)=partW v - 2:=by unfold partW;exact w64 (by omega) (by omega)
 by_cases e1:seqW v=seqW x.e
 focus
  have b1:(seqW v == seqW x.e)=true:=by simpa using e1
  by_cases e2:1<partW v
  ·have HN:=Lib.hid (show y=Nd.on (Nd.met x (partW v - 2)) by rw [← HY.out];unfold Nd.next;simp [hl,e1,e2])
   have b2:decide (partW v>1)=true:=by simpa using e2
   clear e1
   go_wp2_with fail
   have k6:=In.cell c6
   clear c0 c1 c2 c3 c4 c5 c6 c7 c8 z
   refine wi ?_
   repeat (go_big_quiet_step ((first | (go_at_call 225;exact Calls.in_same (seq_any _ _)) | (go_at_call 200;exact Calls.in_same (part_any _ _)))))
   refine wpQuiet_nil ?_
   intro w6 F6
   have h6:NdAt w6 b x:=Ob.up h5 F6
   have A6:=A5.kept F6
   have D6:=D5.then F6
   clear h5 A5 D5 k6 F6
   go_wp2_with fail
   refine (part_any _ _).mono ?_;rintro e _ ⟨rfl,rfl⟩
   go_wp2_with fail
   obtain rfl:=HN.out
   have hlw:=D6.size
   refine (need_meets x (partW v - 2) b _ hlen h6 (sqK hs D6 hb hp2 hq2) hb).mono ?_;rintro e w7 ⟨rfl,⟨lv',h7,hs7,hg7⟩,F7⟩
   have A7:=A6.kept F7 (by simp;exact hp.symm) (by simp;exact hq.symm)
   have D7:=frSub D6 F7 (by simp)
   clear h6 A6 F7 D6
   go_wp2_with fail
   refine (need_on ({ Nd.met x (partW v - 2) with lv:=lv' }) hc ht b _ h7).mono ?_;rintro e w8 ⟨rfl,h8,F8⟩
   rw [on_lv] at h8
   have hb8:∀ g,g∈lv'.ownBlock.toList→g∉[b]:=fun g hg hi=>by
    rw [List.mem_singleton.1 hi] at hg
    rcases hg7 with e7 | e7
    ·rw [e7] at hg;exact hb hg
    ·have:=e7.2 b hg;have:=hbw;omega
   have hs8:=hs7.kept F8 hb8
   have A8:=A7.kept F8 (by simp;exact hp.symm) (by simp;exact hq.symm)
   have D8:=frSub D7 F8 (by simp)
   clear h7 A7 F8 D7 hs7
   obtain ⟨-,-,-,-,-,c5,-,-,-⟩:=nd2_cells h8
   go_wp2_with fail
   go_ret
   exact ⟨rfl,⟨lv',h8,by rw [on_l];exact hs8,hg7.imp id fun hh=>⟨by rw [on_l];exact hh.1,fun g hg=>by have:=hh.2 g hg;omega⟩⟩,A8,D8⟩
  have HN:=Lib.hid (show y=Nd.on x by rw [← HY.out];unfold Nd.next;simp [hl,e2])
  have b2:decide (partW v>1)=false:=by simpa using e2
  clear e1
 rotate_left
 focus
  have HN:=Lib.hid (show y=Nd.on x by rw [← HY.out];unfold Nd.next;simp [hl,e1])
  have b1:(seqW v == seqW x.e)=false:=by simpa using e1
 rotate_left
 all_goals
  go_wp2_with fail
  have k6:=In.cell c6
  clear c0 c1 c2 c3 c4 c5 c6 c7 c8 z
  refine wi ?_
  repeat (go_big_quiet_step ((first | (go_at_call 225;exact Calls.in_same (seq_any _ _)) | (go_at_call 200;exact Calls.in_same (part_any _ _)))))
  refine wpQuiet_nil ?_
  intro w6 F6
  have h6:NdAt w6 b x:=Ob.up h5 F6
  have A6:=A5.kept F6
  have D6:=D5.then F6
  clear h5 A5 D5 k6 F6
  go_wp2_with fail
  obtain rfl:=HN.out
  refine (need_on x hc ht b _ h6).mono ?_;rintro e w7 ⟨rfl,h7,F7⟩
  have A7:=A6.kept F7 (by simp;exact hp.symm) (by simp;exact hq.symm)
  have D7:=frSub D6 F7 (by simp)
  clear h6 A6 F7 D6
  obtain ⟨-,-,-,-,-,c5,-,-,-⟩:=nd2_cells h7
  go_wp2_with fail
  go_ret
  exact ⟨rfl,⟨x.lv,by rw [show ({ Nd.on x with lv:=x.lv }:Nd)=Nd.on x from (on_lv x x.lv).symm];exact h7,by rw [on_l];exact sqK hs D7 hb hp2 hq2,.inl rfl⟩,A7,D7⟩
theorem need_step0 (x:Nd) (hl:x.live=false) (ht:0≤x.t∧x.t≤8) (b p q:Nat) (w:World) (h:NdAt w b x) :
  Calls Tryz.prog 213 #[.pointer (some ⟨b,0,none⟩),.pointer (some ⟨p,0,none⟩)] w fun e w'=>e = .returned (.bool (decide (x.line=0)))∧Fr [] w w':=by
 obtain ⟨c0,c1,c2,c3,c4,c5,c6,c7,c8⟩:=nd2_cells h
 unfold Nd.live at hl
 have l1:x.line≠1:=by intro h;rw [h] at hl;simp at hl
 have l2:x.line≠2:=by intro h;rw [h] at hl;simp at hl
 have l3:x.line≠3:=by intro h;rw [h] at hl;simp at hl
 have l4:x.line≠4:=by intro h;rw [h] at hl;simp at hl
 clear hl
 go_enter Tryz.func213,Tryz.ntmps213
 go_wp2_with fail
 refine (Ref.psa_any x.t ht.1 ht.2 _).mono ?_;rintro e _ ⟨rfl,rfl⟩
 rw [show (3:Int)+x.t=x.pa from rfl]
 go_wp2_with fail
 go_ret
 exact ⟨rfl,Fr.refl _ _⟩
theorem need_step (x:Nd) (hc:x.c.Ok) (ht:0≤x.t∧x.t≤8) (b p q:Nat) (s:St) (w:World) (h:NdAt w b x) (hA:Rar w p q s) (hp:b≠p) (hq:b≠q) (hs:Sq fI w x.lv x.l) (hb:b∉x.lv.ownBlock.toList) (hp2:p∉x.lv.ownBlock.toList) (hq2:q∉x.lv.ownBlock.toList) (hlen:x.l.length≤1000) :
  Calls Tryz.prog 213 #[.pointer (some ⟨b,0,none⟩),.pointer (some ⟨p,0,none⟩)] w fun e w'=>e = .returned (.bool (decide ((x.step s).1.line=0)))∧(∃ lv',NdAt w' b { (x.step s).1 with lv:=lv' } ∧ Sq fI w' lv' (x.step s).1.l∧(lv'=x.lv∨((x.step s).1.l≠[]∧∀ g,g∈lv'.ownBlock.toList→w.heap.size≤g)))∧Rar w' p q (x.step s).2∧Fr [b,p,q] w w':=by
 unfold Nd.step
 cases hl:x.live with
 | false=>exact (need_step0 x hl ht b p q w h).mono (by rintro e w' ⟨rfl,F⟩;exact ⟨rfl,⟨x.lv,Ob.up h F,hs.up F,.inl rfl⟩,hA.kept F,F.mono⟩)
 | true =>
  unfold Nd.live at hl
  have hl':x.line=1∨x.line=2∨x.line=3∨x.line=4:=by simp only [Bool.and_eq_true,decide_eq_true_eq] at hl;omega
  rw [if_pos rfl]
  rcases hl' with l | l | l | l
  ·rw [show x.act s=s.load x.pa by unfold Nd.act;simp [l],show x.told s=peek s.l x.pa by unfold Nd.told;simp [l]];exact need_step1 x l hc ht b p q s w h hA hp hq hs hb hp2 hq2 hlen
  ·rw [show x.act s=s.add 1 1 by unfold Nd.act;simp [l],show x.told s=peek s.l 1 by unfold Nd.told;simp [l]]
   refine (need_step2 x l hc ht b p q s w h hA hp hq).mono ?_
   rintro e w' ⟨rfl,h1,A1,D1⟩
   have e1:x.next (peek s.l 1) = { x with v:=peek s.l 1,line:=3 }:=by unfold Nd.next;simp [l]
   rw [e1] at h1 ⊢
   exact ⟨rfl,⟨x.lv,h1,sqK hs D1 hb hp2 hq2,.inl rfl⟩,A1,D1⟩
  ·rw [show x.act s=s.swap x.pa x.e (claimW (seqW x.e) (wrap64 (x.v+2))) by unfold Nd.act;simp [l]]
   refine (need_step3 x l hc ht b p q s w h hA hp hq).mono ?_
   rintro e w' ⟨rfl,h1,A1,D1⟩
   have e1:x.next (x.told s) = { x with line:=4 }:=by unfold Nd.next;simp [l]
   rw [e1] at h1 ⊢
   exact ⟨rfl,⟨x.lv,h1,sqK hs D1 hb hp2 hq2,.inl rfl⟩,A1,D1⟩
  ·rw [show x.act s=s.load x.pa by unfold Nd.act;simp [l],show x.told s=peek s.l x.pa by unfold Nd.told;simp [l]];exact need_step4 x l hc ht b p q s w h hA hp hq hs hb hp2 hq2 hlen
structure Sp where
 c:Cf
 chunk:Int
 mate:Int
 repl:Int
 line:Int
 m:Int
 cur:Int
 w:Int
 n:Int
 stuck:Int
def Sp.cells (x:Sp):Array Value:=#[.int .i64 x.c.t,.int .i64 x.c.c,.int .i64 x.c.wd,.int .i64 x.c.v,.int .i64 x.chunk,.int .i64 x.mate,.int .i64 x.repl,.int .i64 x.line,.int .i64 x.m,.int .i64 x.cur,.int .i64 x.w,.int .i64 x.n,.int .i64 x.stuck]
def SpAt (w:World) (b:Nat) (x:Sp):Prop:=Ob w b 295 x.cells
theorem sp_cells {w:World} {b:Nat} {x:Sp} (h:SpAt w b x):w.cell? ⟨b,0,none⟩=some (.int .i64 x.c.t)∧w.cell? ⟨b,1,none⟩=some (.int .i64 x.c.c)∧w.cell? ⟨b,2,none⟩=some (.int .i64 x.c.wd)∧w.cell? ⟨b,3,none⟩=some (.int .i64 x.c.v)∧w.cell? ⟨b,4,none⟩=some (.int .i64 x.chunk)∧w.cell? ⟨b,5,none⟩=some (.int .i64 x.mate)∧w.cell? ⟨b,6,none⟩=some (.int .i64 x.repl)∧w.cell? ⟨b,7,none⟩=some (.int .i64 x.line)∧w.cell? ⟨b,8,none⟩=some (.int .i64 x.m)∧w.cell? ⟨b,9,none⟩=some (.int .i64 x.cur)∧w.cell? ⟨b,10,none⟩=some (.int .i64 x.w)∧w.cell? ⟨b,11,none⟩=some (.int .i64 x.n)∧w.cell? ⟨b,12,none⟩=some (.int .i64 x.stuck) :=
 ⟨h.cell rfl,h.cell rfl,h.cell rfl,h.cell rfl,h.cell rfl,h.cell rfl,h.cell rfl,h.cell rfl,h.cell rfl,h.cell rfl,h.cell rfl,h.cell rfl,h.cell rfl⟩
def Sp.new (c:Cf) (chunk mate repl:Int):Sp:=⟨c,chunk,mate,repl,1,0,0,0,0,0⟩
def Sp.head (x:Sp):Sp:={ x with cur:=headP x.c,line:=3 }
def Sp.live (x:Sp):Bool:=decide (x.line=1) || (decide (3≤x.line) && decide (x.line≤8))
def Sp.hint (x:Sp):Int:=hintP x.c (hd x.m 0 63)
def Sp.act (x:Sp) (s:St):St :=
 if x.line=1 then s.load (wrap64 x.chunk) else if x.line=3 then s.load (wrap64 (x.cur+2)) else if x.line=4 then s.swap (wrap64 (x.cur+2)) x.w (nextW x.repl false) else if x.line=5 then s.load (wrap64 x.n)
 else if x.line=6 then s.store (wrap64 (x.chunk+6)) 2 else if x.line=7 then s.store (wrap64 (x.mate+6)) 2 else s.store x.hint x.repl
def Sp.told (x:Sp) (s:St):Int :=
 if x.line=1 then peek s.l (wrap64 x.chunk) else if x.line=3 then peek s.l (wrap64 (x.cur+2)) else if x.line=4 then (if s.can (wrap64 (x.cur+2)) x.w then 1 else 0) else peek s.l (wrap64 x.n)
def Sp.next (x:Sp) (v:Int):Sp :=
 if x.line=1 then Sp.head { x with m:=v }
 else if x.line=3 then (if markW v=true then { x with w:=v,n:=atW v,stuck:=x.cur,line:=0 } else if atW v=0 then { x with w:=v,n:=0,line:=6 } else if atW v=x.chunk then { x with w:=v,n:=atW v,line:=4 } else { x with w:=v,n:=atW v,line:=5 })
 else if x.line=4 then (if v=1 then { x with line:=6 } else x.head)
 else if x.line=5 then (if x.m≤v then { x with line:=6 } else { x with cur:=x.n,line:=3 })
 else if x.line=6 then (if x.mate=0 then { x with line:=8 } else { x with line:=7 })
 else if x.line=7 then { x with line:=8 } else { x with line:=0 }
theorem mid_if (m:Int):(if (0:Int)<(if (63:Int)<m then 63 else m) then (if (63:Int)<m then 63 else m) else 0)=hd m 0 63:=by unfold hd;(repeat' split) <;> omega
def Sp.step (x:Sp) (s:St):Sp×St:=if x.live=true then (x.next (x.told s),x.act s) else (x,s)
theorem newSplice_any (c:Cf) (chunk mate repl:Int) (w:World):Calls Tryz.prog 211 #[c.val,.int .i64 chunk,.int .i64 mate,.int .i64 repl] w fun e w'=>∃ b,e = .returned (.pointer (some ⟨b,0,none⟩))∧w.heap.size≤b∧SpAt w' b (Sp.new c chunk mate repl)∧Fr [] w w':=by
 unfold Cf.val
 have F0:=(Fr.refl [] w).alloc (.cells #[.int .i64 c.t,.int .i64 c.c,.int .i64 c.wd,.int .i64 c.v] 23)
 obtain ⟨c0,c1,c2,c3⟩:=Pl.cells4 (Go.heap_alloc_new w (.cells #[.int .i64 c.t,.int .i64 c.c,.int .i64 c.wd,.int .i64 c.v] 23))
 go_enter Tryz.func211,Tryz.ntmps211
 go_wp2
 go_ret
 exact ⟨_,rfl,by omega,Ob.newAt (sizeA _ _) _ _,F0.alloc _⟩
theorem splice_head (x:Sp) (hc:x.c.Ok) (b:Nat) (w:World) (h:SpAt w b x):Calls Tryz.prog 229 #[.pointer (some ⟨b,0,none⟩)] w fun e w'=>e = .returned (.tuple #[])∧SpAt w' b x.head∧Fr [b] w w':=by
 obtain ⟨c0,c1,c2,c3,c4,c5,c6,c7,c8,c9,c10,c11,c12⟩:=sp_cells h
 go_enter Tryz.func229,Tryz.ntmps229
 go_wp2_with fail
 refine (Ref.head_any x.c.t x.c.c x.c.wd x.c.v hc.t1 hc.t8 _).mono ?_;rintro e w1 ⟨rfl,F1⟩
 have h1:SpAt w1 b x:=Ob.up h F1
 have z1:=h1.frozen
 clear c0 c1 c2 c3 c4 c5 c6 c7 c8 c9 c10 c11 c12
 obtain ⟨-,-,-,-,-,-,-,c7,-,c9,-,-,-⟩:=sp_cells h1
 go_wp2
 go_end0
 exact ⟨rfl,by
  have e:3+x.c.t+4=headP x.c:=by unfold headP;omega
  rw [e];exact (Ob.set h1 _).set _,(F1.mono).trans ((Fr.setCell _ (by simp)).setCell' _ (by simp))⟩
theorem splice_step1 (x:Sp) (hl:x.line=1) (hc:x.c.Ok) (b p q:Nat) (s:St) (w:World) (h:SpAt w b x) (hA:Rar w p q s) (hp:b≠p) (hq:b≠q) :
  Calls Tryz.prog 219 #[.pointer (some ⟨b,0,none⟩),.pointer (some ⟨p,0,none⟩)] w fun e w'=>e = .returned (.bool (decide ((x.next (peek s.l (wrap64 x.chunk))).line=0)))∧SpAt w' b (x.next (peek s.l (wrap64 x.chunk)))∧Rar w' p q (s.load (wrap64 x.chunk))∧Fr [b,p,q] w w':=by
 generalize hy:x.next (peek s.l (wrap64 x.chunk))=y
 have HY:=Lib.hid hy
 clear hy
 obtain ⟨c0,c1,c2,c3,c4,c5,c6,c7,c8,c9,c10,c11,c12⟩:=sp_cells h
 have z:=h.frozen
 go_enter Tryz.func219,Tryz.ntmps219
 go_wp2_with fail
 have h0:=h
 have A0:=hA
 have D0:=Fr.refl [b,p,q] w
 clear h hA
 have hw0:=Lib.hid (Eq.refl w)
 have A1:=A0
 have h1:=h0
 have D1:=D0
 clear c0 c1 c2 c3 c4 c5 c6 c7 c8 c9 c10 c11 c12 z
 refine (Ref.load_any _ p q s _ A1).mono ?_;rintro e w5 ⟨rfl,A5,F5⟩
 have h5:=Ob.kept h1 F5 (by simp;exact ⟨hp,hq⟩)
 have D5:=frSub D1 F5 (by simp)
 clear A1 h1 D1 F5 A0 h0 D0
 obtain ⟨c0,c1,c2,c3,c4,c5,c6,c7,c8,c9,c10,c11,c12⟩:=sp_cells h5
 have z:=h5.frozen
 generalize hv:peek s.l (wrap64 x.chunk)=v at *
 have hn:y=Sp.head { x with m:=v }:=by rw [← HY.out];unfold Sp.next;simp [hl]
 subst hn
 go_wp2_with fail
 have h6:SpAt _ b { x with m:=v }:=(Ob.set h5 (i:=8) (.int .i64 v))
 have A6:=(Rar.set A5 hp hq (i:=8) (.int .i64 v))
 have D6:=(Fr.setCell' D5 (b:=b) (i:=8) (.int .i64 v) (by simp))
 generalize (w5.setCell ⟨b,8,none⟩ (.int .i64 v))=w6 at *
 clear c0 c1 c2 c3 c4 c5 c6 c7 c8 c9 c10 c11 c12 z
 clear h5 A5 D5
 refine (splice_head { x with m:=v } hc b _ h6).mono ?_;rintro e w7 ⟨rfl,h7,F7⟩
 have A7:=A6.kept F7 (by simp;exact hp.symm) (by simp;exact hq.symm)
 have D7:=frSub D6 F7 (by simp)
 clear h6 A6 D6 F7
 obtain ⟨-,-,-,-,-,-,-,c7,-,-,-,-,-⟩:=sp_cells h7
 go_wp2_with fail
 go_ret
 exact ⟨rfl,h7,A7,D7⟩
theorem splice_step3 (x:Sp) (hl:x.line=3) (hc:x.c.Ok) (b p q:Nat) (s:St) (w:World) (h:SpAt w b x) (hA:Rar w p q s) (hp:b≠p) (hq:b≠q) :
  Calls Tryz.prog 219 #[.pointer (some ⟨b,0,none⟩),.pointer (some ⟨p,0,none⟩)] w fun e w'=>e = .returned (.bool (decide ((x.next (peek s.l (wrap64 (x.cur+2)))).line=0)))∧SpAt w' b (x.next (peek s.l (wrap64 (x.cur+2))))∧Rar w' p q (s.load (wrap64 (x.cur+2)))∧Fr [b,p,q] w w':=by
 generalize hy:x.next (peek s.l (wrap64 (x.cur+2)))=y
 have HY:=Lib.hid hy
 clear hy
 obtain ⟨c0,c1,c2,c3,c4,c5,c6,c7,c8,c9,c10,c11,c12⟩:=sp_cells h
 have z:=h.frozen
 go_enter Tryz.func219,Tryz.ntmps219
 go_wp2_with fail
 have h0:=h
 have A0:=hA
 have D0:=Fr.refl [b,p,q] w
 clear h hA
 have hw0:=Lib.hid (Eq.refl w)
 have A1:=A0
 have h1:=h0
 have D1:=D0
 clear c0 c1 c2 c3 c4 c5 c6 c7 c8 c9 c10 c11 c12 z
 refine (Ref.load_any _ p q s _ A1).mono ?_;rintro e w5 ⟨rfl,A5,F5⟩
 have h5:=Ob.kept h1 F5 (by simp;exact ⟨hp,hq⟩)
 have D5:=frSub D1 F5 (by simp)
 clear A1 h1 D1 F5 A0 h0 D0
 obtain ⟨c0,c1,c2,c3,c4,c5,c6,c7,c8,c9,c10,c11,c12⟩:=sp_cells h5
 have z:=h5.frozen
 generalize hv:peek s.l (wrap64 (x.cur+2))=v at *
 go_wp2_with fail
 refine (at_any _ _).mono ?_;rintro e _ ⟨rfl,rfl⟩
 go_wp2_with fail
 have h6:SpAt _ b { x with w:=v,n:=atW v }:=(Ob.set (Ob.set h5 (i:=10) (.int .i64 v)) (i:=11) (.int .i64 (atW v)))
 have A6:=(Rar.set (Rar.set A5 hp hq (i:=10) (.int .i64 v)) hp hq (i:=11) (.int .i64 (atW v)))
 have D6:=(Fr.setCell' (Fr.setCell' D5 (b:=b) (i:=10) (.int .i64 v) (by simp)) (b:=b) (i:=11) (.int .i64 (atW v)) (by simp))
 generalize ((w5.setCell ⟨b,10,none⟩ (.int .i64 v)).setCell ⟨b,11,none⟩ (.int .i64 (atW v)))=w6 at *
 clear c0 c1 c2 c3 c4 c5 c6 c7 c8 c9 c10 c11 c12 z
 clear h5 A5 D5
 refine (marked_any _ _).mono ?_;rintro e _ ⟨rfl,rfl⟩
 obtain ⟨c0,c1,c2,c3,c4,c5,c6,c7,c8,c9,c10,c11,c12⟩:=sp_cells h6
 have z:=h6.frozen
 generalize ha:atW v=av at *
 cases hm:markW v
 ·by_cases hz0:av=0
  ·have hn:y = { x with w:=v,n:=0,line:=6 }:=by rw [← HY.out];unfold Sp.next;simp [hl,hm,ha,hz0]
   subst hn
   go_wp2_with fail
   go_ret
   rw [show ({ x with w:=v,n:=0,line:=6 }:Sp) = { x with w:=v,n:=av,line:=6 } by rw [← hz0]]
   exact ⟨rfl,(Ob.set h6 (i:=7) (.int .i64 6)),(Rar.set A6 hp hq (i:=7) (.int .i64 6)),(Fr.setCell' D6 (b:=b) (i:=7) (.int .i64 6) (by simp))⟩
  ·have b0:(av == 0)=false:=by simpa using hz0
   go_wp2_with fail
   have k4:=In.cell c4
   have k11:=In.cell c11
   clear c0 c1 c2 c3 c4 c5 c6 c7 c8 c9 c10 c11 c12 z
   refine wi ?_
   repeat (go_big_quiet_step (fail))
   refine wpQuiet_nil ?_
   intro w7 F7
   have h7:=Ob.up h6 F7
   have A7:=A6.kept F7
   have D7:=D6.then F7
   clear h6 A6 D6 F7 k4 k11
   obtain ⟨c0,c1,c2,c3,c4,c5,c6,c7,c8,c9,c10,c11,c12⟩:=sp_cells h7
   have z:=h7.frozen
   by_cases hc0:av=x.chunk
   ·have hn:y = { x with w:=v,n:=av,line:=4 }:=by rw [← HY.out];unfold Sp.next;simp [hl,hm,ha,hz0,hc0];exact fun h=>hz0 (hc0.trans h)
    subst hn
    have b1:(av == x.chunk)=true:=by simpa using hc0
    clear hc0
    go_wp2_with fail
    go_ret
    exact ⟨rfl,(Ob.set h7 (i:=7) (.int .i64 4)),(Rar.set A7 hp hq (i:=7) (.int .i64 4)),(Fr.setCell' D7 (b:=b) (i:=7) (.int .i64 4) (by simp))⟩
   ·have hn:y = { x with w:=v,n:=av,line:=5 }:=by rw [← HY.out];unfold Sp.next;simp [hl,hm,ha,hz0,hc0]
    subst hn
    have b1:(av == x.chunk)=false:=by simpa using hc0
    go_wp2_with fail
    go_ret
    exact ⟨rfl,(Ob.set h7 (i:=7) (.int .i64 5)),(Rar.set A7 hp hq (i:=7) (.int .i64 5)),(Fr.setCell' D7 (b:=b) (i:=7) (.int .i64 5) (by simp))⟩
 ·have hn:y = { x with w:=v,n:=av,stuck:=x.cur,line:=0 }:=by rw [← HY.out];unfold Sp.next;simp [hl,hm,ha]
  subst hn
  go_wp2_with fail
  go_ret
  exact ⟨rfl,(Ob.set (Ob.set h6 (i:=12) (.int .i64 x.cur)) (i:=7) (.int .i64 0)),(Rar.set (Rar.set A6 hp hq (i:=12) (.int .i64 x.cur)) hp hq (i:=7) (.int .i64 0)),(Fr.setCell' (Fr.setCell' D6 (b:=b) (i:=12) (.int .i64 x.cur) (by simp)) (b:=b) (i:=7) (.int .i64 0) (by simp))⟩
theorem splice_step4 (x:Sp) (hl:x.line=4) (hc:x.c.Ok) (b p q:Nat) (s:St) (w:World) (h:SpAt w b x) (hA:Rar w p q s) (hp:b≠p) (hq:b≠q) :
  Calls Tryz.prog 219 #[.pointer (some ⟨b,0,none⟩),.pointer (some ⟨p,0,none⟩)] w fun e w'=>e = .returned (.bool (decide ((x.next ((if s.can (wrap64 (x.cur+2)) x.w then 1 else 0))).line=0)))∧SpAt w' b (x.next ((if s.can (wrap64 (x.cur+2)) x.w then 1 else 0)))∧Rar w' p q (s.swap (wrap64 (x.cur+2)) x.w (nextW x.repl false))∧Fr [b,p,q] w w':=by
 generalize hy:x.next ((if s.can (wrap64 (x.cur+2)) x.w then 1 else 0))=y
 have HY:=Lib.hid hy
 clear hy
 obtain ⟨c0,c1,c2,c3,c4,c5,c6,c7,c8,c9,c10,c11,c12⟩:=sp_cells h
 have z:=h.frozen
 go_enter Tryz.func219,Tryz.ntmps219
 go_wp2_with fail
 have h0:=h
 have A0:=hA
 have D0:=Fr.refl [b,p,q] w
 clear h hA
 have hw0:=Lib.hid (Eq.refl w)
 have A1:=A0
 have h1:=h0
 have D1:=D0
 clear c0 c1 c2 c3 c4 c5 c6 c7 c8 c9 c10 c11 c12 z
 refine wp_region_env (by kernel_rfl) [p,q] (fun w2 F2=>?_)
 refine ep [true,true,true,true,true,true,true,true,true,true,true,true,true,true,true,false] 1 (F2.mono) ?_
 apply Exists.intro
 refine ⟨fun wf Ff=>?_,?_⟩
 ·have hf:SpAt wf b x:=Ob.kept h1 Ff (by simp;exact ⟨hp,hq⟩)
  obtain ⟨-,-,-,-,-,-,c6,-,-,c9,c10,-,-⟩:=sp_cells hf
  have k6:=In.cell c6
  have k9:=In.cell c9
  have k10:=In.cell c10
  clear hf c6 c9 c10
  simp only [sel]
  repeat (go_big_quiet_step ((first | (go_at_call 137;exact Calls.in_same (next_any _ _ _)))))
  exact wpQuiet_nil rfl
 refine eo 15 (fun w3 F3=>?_)
 have E3:=F2.trans F3
 have A3:=A1.kept E3
 have h3:=Ob.up h1 E3
 have G3:=frSub D1 E3 (by simp)
 clear F2 F3 A1 h1 D1 A0 h0 D0
 go_wp2_with fail
 refine (Ref.swap_any _ p q s _ _ _ A3).mono ?_;rintro e w4 ⟨rfl,A4,F4⟩
 have E4:=(E3.mono (T:=[p,q]) (by simp)).trans F4
 have h4:=h3.kept F4 (by simp;exact ⟨hp,hq⟩)
 have G4:=frSub G3 F4 (by simp)
 clear A3 h3 F4 G3 E3
 go_wp2_with fail
 refine nx_normal ⟨E4,?_⟩
 refine env_done (by kernel_rfl) (fun w5 F5=>?_)
 have D5:=G4.then F5
 have h5:SpAt w5 b x:=h4.up F5
 have A5:=A4.kept F5
 clear A4 h4 F5 G4 E4
 obtain ⟨c0,c1,c2,c3,c4,c5,c6,c7,c8,c9,c10,c11,c12⟩:=sp_cells h5
 have z:=h5.frozen
 cases hv:s.can (wrap64 (x.cur+2)) x.w
 ·have hn:y=x.head:=by rw [← HY.out];unfold Sp.next;simp [hl,hv]
  subst hn
  go_wp2_with fail
  have h6:=h5
  have A6:=A5
  have D6:=D5
  clear c0 c1 c2 c3 c4 c5 c6 c7 c8 c9 c10 c11 c12 z
  clear h5 A5 D5
  refine (splice_head x hc b _ h6).mono ?_;rintro e w7 ⟨rfl,h7,F7⟩
  have A7:=A6.kept F7 (by simp;exact hp.symm) (by simp;exact hq.symm)
  have D7:=frSub D6 F7 (by simp)
  clear h6 A6 D6 F7
  obtain ⟨-,-,-,-,-,-,-,c7,-,-,-,-,-⟩:=sp_cells h7
  go_wp2_with fail
  go_ret
  exact ⟨rfl,h7,A7,D7⟩
 ·have hn:y = { x with line:=6 }:=by rw [← HY.out];unfold Sp.next;simp [hl,hv]
  subst hn
  go_wp2_with fail
  go_ret
  exact ⟨rfl,(Ob.set h5 (i:=7) (.int .i64 6)),(Rar.set A5 hp hq (i:=7) (.int .i64 6)),(Fr.setCell' D5 (b:=b) (i:=7) (.int .i64 6) (by simp))⟩
theorem splice_step5 (x:Sp) (hl:x.line=5) (hc:x.c.Ok) (b p q:Nat) (s:St) (w:World) (h:SpAt w b x) (hA:Rar w p q s) (hp:b≠p) (hq:b≠q) :
  Calls Tryz.prog 219 #[.pointer (some ⟨b,0,none⟩),.pointer (some ⟨p,0,none⟩)] w fun e w'=>e = .returned (.bool (decide ((x.next (peek s.l (wrap64 x.n))).line=0)))∧SpAt w' b (x.next (peek s.l (wrap64 x.n)))∧Rar w' p q (s.load (wrap64 x.n))∧Fr [b,p,q] w w':=by
 generalize hy:x.next (peek s.l (wrap64 x.n))=y
 have HY:=Lib.hid hy
 clear hy
 obtain ⟨c0,c1,c2,c3,c4,c5,c6,c7,c8,c9,c10,c11,c12⟩:=sp_cells h
 have z:=h.frozen
 go_enter Tryz.func219,Tryz.ntmps219
 go_wp2_with fail
 have h0:=h
 have A0:=hA
 have D0:=Fr.refl [b,p,q] w
 clear h hA
 have hw0:=Lib.hid (Eq.refl w)
 have A1:=A0
 have h1:=h0
 have D1:=D0
 clear c0 c1 c2 c3 c4 c5 c6 c7 c8 c9 c10 c11 c12 z
 refine wp_region_env (by kernel_rfl) [p,q] (fun w2 F2=>?_)
 refine ep [true,true,true,true,true,true,false,true,true,true,true,false] 2 (F2.mono) ?_
 apply Exists.intro
 refine ⟨fun wf Ff=>?_,?_⟩
 ·have hf:SpAt wf b x:=Ob.kept h1 Ff (by simp;exact ⟨hp,hq⟩)
  obtain ⟨-,-,-,-,-,-,-,-,c8,-,-,c11,-⟩:=sp_cells hf
  have k8:=In.cell c8
  have k11:=In.cell c11
  clear hf c8 c11
  simp only [sel]
  repeat (go_big_quiet_step (fail))
  exact wpQuiet_nil rfl
 refine eo 6 (fun w3 F3=>?_)
 have E3:=F2.trans F3
 have A3:=A1.kept E3
 have h3:=Ob.up h1 E3
 have G3:=frSub D1 E3 (by simp)
 clear F2 F3 A1 h1 D1 A0 h0 D0
 go_wp2_with fail
 refine (Ref.load_any _ p q s _ A3).mono ?_;rintro e w4 ⟨rfl,A4,F4⟩
 have E4:=(E3.mono (T:=[p,q]) (by simp)).trans F4
 have h4:=h3.kept F4 (by simp;exact ⟨hp,hq⟩)
 have G4:=frSub G3 F4 (by simp)
 clear A3 h3 F4 G3 E3
 go_wp2_with fail
 refine nx_normal ⟨E4,?_⟩
 refine eo 11 (fun wx Fx=>?_)
 replace E4:=E4.then Fx
 replace h4:=h4.up Fx
 replace A4:=A4.kept Fx
 replace G4:=G4.then Fx
 clear Fx
 go_wp2_with fail
 refine nx_normal ⟨E4,?_⟩
 refine env_done (by kernel_rfl) (fun w5 F5=>?_)
 have D5:=G4.then F5
 have h5:SpAt w5 b x:=h4.up F5
 have A5:=A4.kept F5
 clear A4 h4 F5 G4 E4
 obtain ⟨c0,c1,c2,c3,c4,c5,c6,c7,c8,c9,c10,c11,c12⟩:=sp_cells h5
 have z:=h5.frozen
 generalize hv:peek s.l (wrap64 x.n)=v at *
 by_cases hv0:x.m≤v
 ·have hn:y = { x with line:=6 }:=by rw [← HY.out];unfold Sp.next;simp [hl,hv0]
  subst hn
  have g:decide (v≥x.m)=true:=by simpa using hv0
  go_wp2_with fail
  go_ret
  exact ⟨rfl,(Ob.set h5 (i:=7) (.int .i64 6)),(Rar.set A5 hp hq (i:=7) (.int .i64 6)),(Fr.setCell' D5 (b:=b) (i:=7) (.int .i64 6) (by simp))⟩
 ·have hn:y = { x with cur:=x.n,line:=3 }:=by rw [← HY.out];unfold Sp.next;simp [hl,hv0]
  subst hn
  have g:decide (v≥x.m)=false:=by simpa using hv0
  go_wp2_with fail
  go_ret
  exact ⟨rfl,(Ob.set (Ob.set h5 (i:=9) (.int .i64 x.n)) (i:=7) (.int .i64 3)),(Rar.set (Rar.set A5 hp hq (i:=9) (.int .i64 x.n)) hp hq (i:=7) (.int .i64 3)),(Fr.setCell' (Fr.setCell' D5 (b:=b) (i:=9) (.int .i64 x.n) (by simp)) (b:=b) (i:=7) (.int .i64 3) (by simp))⟩
theorem splice_step6 (x:Sp) (hl:x.line=6) (hc:x.c.Ok) (b p q:Nat) (s:St) (w:World) (h:SpAt w b x) (hA:Rar w p q s) (hp:b≠p) (hq:b≠q) :
  Calls Tryz.prog 219 #[.pointer (some ⟨b,0,none⟩),.pointer (some ⟨p,0,none⟩)] w fun e w'=>e = .returned (.bool (decide ((x.next (x.told s)).line=0)))∧SpAt w' b (x.next (x.told s))∧Rar w' p q (s.store (wrap64 (x.chunk+6)) 2)∧Fr [b,p,q] w w':=by
 generalize hy:x.next (x.told s)=y
 have HY:=Lib.hid hy
 clear hy
 obtain ⟨c0,c1,c2,c3,c4,c5,c6,c7,c8,c9,c10,c11,c12⟩:=sp_cells h
 have z:=h.frozen
 go_enter Tryz.func219,Tryz.ntmps219
 go_wp2_with fail
 have h0:=h
 have A0:=hA
 have D0:=Fr.refl [b,p,q] w
 clear h hA
 have hw0:=Lib.hid (Eq.refl w)
 have A1:=A0
 have h1:=h0
 have D1:=D0
 clear c0 c1 c2 c3 c4 c5 c6 c7 c8 c9 c10 c11 c12 z
 refine (Ref.store_any _ p q s _ 2 A1).mono ?_;rintro e w5 ⟨rfl,A5,F5⟩
 have h5:=Ob.kept h1 F5 (by simp;exact ⟨hp,hq⟩)
 have D5:=frSub D1 F5 (by simp)
 clear A1 h1 D1 F5 A0 h0 D0
 obtain ⟨c0,c1,c2,c3,c4,c5,c6,c7,c8,c9,c10,c11,c12⟩:=sp_cells h5
 have z:=h5.frozen
 by_cases hm:x.mate=0
 ·have hn:y = { x with line:=8 }:=by rw [← HY.out];unfold Sp.next;simp [hl,hm]
  subst hn
  go_wp2_with fail
  go_ret
  rw [show ({ x with mate:=0,line:=8 }:Sp) = { x with line:=8 } by rw [← hm]]
  exact ⟨rfl,(Ob.set h5 (i:=7) (.int .i64 8)),(Rar.set A5 hp hq (i:=7) (.int .i64 8)),(Fr.setCell' D5 (b:=b) (i:=7) (.int .i64 8) (by simp))⟩
 ·have hn:y = { x with line:=7 }:=by rw [← HY.out];unfold Sp.next;simp [hl,hm]
  subst hn
  go_wp2_with fail
  go_ret
  exact ⟨rfl,(Ob.set (Ob.set h5 (i:=7) (.int .i64 8)) (i:=7) (.int .i64 7)),(Rar.set (Rar.set A5 hp hq (i:=7) (.int .i64 8)) hp hq (i:=7) (.int .i64 7)),(Fr.setCell' (Fr.setCell' D5 (b:=b) (i:=7) (.int .i64 8) (by simp)) (b:=b) (i:=7) (.int .i64 7) (by simp))⟩
theorem splice_step7 (x:Sp) (hl:x.line=7) (hc:x.c.Ok) (b p q:Nat) (s:St) (w:World) (h:SpAt w b x) (hA:Rar w p q s) (hp:b≠p) (hq:b≠q) :
  Calls Tryz.prog 219 #[.pointer (some ⟨b,0,none⟩),.pointer (some ⟨p,0,none⟩)] w fun e w'=>e = .returned (.bool (decide ((x.next (x.told s)).line=0)))∧SpAt w' b (x.next (x.told s))∧Rar w' p q (s.store (wrap64 (x.mate+6)) 2)∧Fr [b,p,q] w w':=by
 generalize hy:x.next (x.told s)=y
 have HY:=Lib.hid hy
 clear hy
 obtain ⟨c0,c1,c2,c3,c4,c5,c6,c7,c8,c9,c10,c11,c12⟩:=sp_cells h
 have z:=h.frozen
 go_enter Tryz.func219,Tryz.ntmps219
 go_wp2_with fail
 have h0:=h
 have A0:=hA
 have D0:=Fr.refl [b,p,q] w
 clear h hA
 have hw0:=Lib.hid (Eq.refl w)
 have A1:=A0
 have h1:=h0
 have D1:=D0
 clear c0 c1 c2 c3 c4 c5 c6 c7 c8 c9 c10 c11 c12 z
 refine (Ref.store_any _ p q s _ 2 A1).mono ?_;rintro e w5 ⟨rfl,A5,F5⟩
 have h5:=Ob.kept h1 F5 (by simp;exact ⟨hp,hq⟩)
 have D5:=frSub D1 F5 (by simp)
 clear A1 h1 D1 F5 A0 h0 D0
 obtain ⟨c0,c1,c2,c3,c4,c5,c6,c7,c8,c9,c10,c11,c12⟩:=sp_cells h5
 have z:=h5.frozen
 have hn:y = { x with line:=8 }:=by rw [← HY.out];unfold Sp.next;simp [hl]
 subst hn
 go_wp2_with fail
 go_ret
 exact ⟨rfl,(Ob.set h5 (i:=7) (.int .i64 8)),(Rar.set A5 hp hq (i:=7) (.int .i64 8)),(Fr.setCell' D5 (b:=b) (i:=7) (.int .i64 8) (by simp))⟩
theorem splice_step8 (x:Sp) (hl:x.line=8) (hc:x.c.Ok) (b p q:Nat) (s:St) (w:World) (h:SpAt w b x) (hA:Rar w p q s) (hp:b≠p) (hq:b≠q) :
  Calls Tryz.prog 219 #[.pointer (some ⟨b,0,none⟩),.pointer (some ⟨p,0,none⟩)] w fun e w'=>e = .returned (.bool (decide ((x.next (x.told s)).line=0)))∧SpAt w' b (x.next (x.told s))∧Rar w' p q (s.store x.hint x.repl)∧Fr [b,p,q] w w':=by
 generalize hy:x.next (x.told s)=y
 have HY:=Lib.hid hy
 clear hy
 obtain ⟨c0,c1,c2,c3,c4,c5,c6,c7,c8,c9,c10,c11,c12⟩:=sp_cells h
 have z:=h.frozen
 go_enter Tryz.func219,Tryz.ntmps219
 go_wp2_with fail
 have h0:=h
 have A0:=hA
 have D0:=Fr.refl [b,p,q] w
 clear h hA
 have hw0:=Lib.hid (Eq.refl w)
 have A1:=A0
 have h1:=h0
 have D1:=D0
 clear c0 c1 c2 c3 c4 c5 c6 c7 c8 c9 c10 c11 c12 z
 refine wp_region_env (by kernel_rfl) [p,q] (fun w2 F2=>?_)
 refine ep [true,true,true,true,true,true,true,true,true,true,true,true,true,true,true,true,false] 1 (F2.mono) ?_
 apply Exists.intro
 refine ⟨fun wf Ff=>?_,?_⟩
 ·have hf:SpAt wf b x:=Ob.kept h1 Ff (by simp;exact ⟨hp,hq⟩)
  obtain ⟨c0,c1,c2,c3,-,-,c6,-,c8,-,-,-,-⟩:=sp_cells hf
  have k0:=In.cell c0
  have k1:=In.cell c1
  have k2:=In.cell c2
  have k3:=In.cell c3
  have k6:=In.cell c6
  have k8:=In.cell c8
  clear hf c0 c1 c2 c3 c6 c8
  simp only [sel]
  repeat (go_big_quiet_step ((first | (go_at_call 58;exact Calls.in_ (Ref.hint_any x.c.t x.c.c x.c.wd x.c.v _ hc.t1 hc.t8 (by (repeat' split) <;> omega) (by (repeat' split) <;> omega) _)))))
  exact wpQuiet_nil rfl
 rw [mid_if x.m]
 generalize (if (63:Int)<x.m then (63:Int) else x.m)=k63
 refine eo 16 (fun w3 F3=>?_)
 have E3:=F2.trans F3
 have A3:=A1.kept E3
 have h3:=Ob.up h1 E3
 have G3:=frSub D1 E3 (by simp)
 clear F2 F3 A1 h1 D1 A0 h0 D0
 go_wp2_with fail
 refine (Ref.store_any _ p q s _ _ A3).mono ?_;rintro e w4 ⟨rfl,A4,F4⟩
 have E4:=(E3.mono (T:=[p,q]) (by simp)).trans F4
 have h4:=h3.kept F4 (by simp;exact ⟨hp,hq⟩)
 have G4:=frSub G3 F4 (by simp)
 clear A3 h3 F4 G3 E3
 go_wp2_with fail
 refine nx_normal ⟨E4,?_⟩
 refine env_done (by kernel_rfl) (fun w5 F5=>?_)
 have D5:=G4.then F5
 have h5:SpAt w5 b x:=h4.up F5
 have A5:=A4.kept F5
 clear A4 h4 F5 G4 E4
 obtain ⟨c0,c1,c2,c3,c4,c5,c6,c7,c8,c9,c10,c11,c12⟩:=sp_cells h5
 have z:=h5.frozen
 rw [show (3:Int)+x.c.t+hd x.m 0 63 / 16=x.hint from rfl] at A5
 have hn:y = { x with line:=0 }:=by rw [← HY.out];unfold Sp.next;simp [hl]
 subst hn
 go_wp2_with fail
 go_ret
 exact ⟨rfl,(Ob.set h5 (i:=7) (.int .i64 0)),(Rar.set A5 hp hq (i:=7) (.int .i64 0)),(Fr.setCell' D5 (b:=b) (i:=7) (.int .i64 0) (by simp))⟩
theorem splice_step0 (x:Sp) (hl:x.live=false) (hc:x.c.Ok) (b p q:Nat) (w:World) (h:SpAt w b x) :
  Calls Tryz.prog 219 #[.pointer (some ⟨b,0,none⟩),.pointer (some ⟨p,0,none⟩)] w fun e w'=>e = .returned (.bool (decide (x.line=0)))∧Fr [] w w':=by
 obtain ⟨c0,c1,c2,c3,c4,c5,c6,c7,c8,c9,c10,c11,c12⟩:=sp_cells h
 unfold Sp.live at hl
 have l1:x.line≠1:=by intro h;rw [h] at hl;simp at hl
 have l3:x.line≠3:=by intro h;rw [h] at hl;simp at hl
 have l4:x.line≠4:=by intro h;rw [h] at hl;simp at hl
 have l5:x.line≠5:=by intro h;rw [h] at hl;simp at hl
 have l6:x.line≠6:=by intro h;rw [h] at hl;simp at hl
 have l7:x.line≠7:=by intro h;rw [h] at hl;simp at hl
 have l8:x.line≠8:=by intro h;rw [h] at hl;simp at hl
 clear hl
 go_enter Tryz.func219,Tryz.ntmps219
 go_wp2_with fail
 go_ret
 exact ⟨rfl,Fr.refl _ _⟩
theorem splice_step (x:Sp) (hc:x.c.Ok) (b p q:Nat) (s:St) (w:World) (h:SpAt w b x) (hA:Rar w p q s) (hp:b≠p) (hq:b≠q) :
  Calls Tryz.prog 219 #[.pointer (some ⟨b,0,none⟩),.pointer (some ⟨p,0,none⟩)] w fun e w'=>e = .returned (.bool (decide ((x.step s).1.line=0)))∧SpAt w' b (x.step s).1∧Rar w' p q (x.step s).2∧Fr [b,p,q] w w':=by
 unfold Sp.step
 cases hl:x.live with
 | false=>exact (splice_step0 x hl hc b p q w h).mono (by rintro e w' ⟨rfl,F⟩;exact ⟨rfl,Ob.up h F,hA.kept F,F.mono⟩)
 | true =>
  unfold Sp.live at hl
  have hl':x.line=1∨x.line=3∨x.line=4∨x.line=5∨x.line=6∨x.line=7∨x.line=8:=by
   simp only [Bool.and_eq_true,Bool.or_eq_true,decide_eq_true_eq] at hl;omega
  rw [if_pos rfl]
  rcases hl' with l | l | l | l | l | l | l
  ·rw [show x.act s=s.load (wrap64 x.chunk) by unfold Sp.act;simp [l],show x.told s=peek s.l (wrap64 x.chunk) by unfold Sp.told;simp [l]];exact splice_step1 x l hc b p q s w h hA hp hq
  ·rw [show x.act s=s.load (wrap64 (x.cur+2)) by unfold Sp.act;simp [l],show x.told s=peek s.l (wrap64 (x.cur+2)) by unfold Sp.told;simp [l]];exact splice_step3 x l hc b p q s w h hA hp hq
  ·rw [show x.act s=s.swap (wrap64 (x.cur+2)) x.w (nextW x.repl false) by unfold Sp.act;simp [l],show x.told s=(if s.can (wrap64 (x.cur+2)) x.w then 1 else 0) by unfold Sp.told;simp [l]];exact splice_step4 x l hc b p q s w h hA hp hq
  ·rw [show x.act s=s.load (wrap64 x.n) by unfold Sp.act;simp [l],show x.told s=peek s.l (wrap64 x.n) by unfold Sp.told;simp [l]];exact splice_step5 x l hc b p q s w h hA hp hq
  ·rw [show x.act s=s.store (wrap64 (x.chunk+6)) 2 by unfold Sp.act;simp [l]];exact splice_step6 x l hc b p q s w h hA hp hq
  ·rw [show x.act s=s.store (wrap64 (x.mate+6)) 2 by unfold Sp.act;simp [l]];exact splice_step7 x l hc b p q s w h hA hp hq
  ·rw [show x.act s=s.store x.hint x.repl by unfold Sp.act;simp [l]];exact splice_step8 x l hc b p q s w h hA hp hq
end Go.Proofs.YtilipdnchflkhaaGreatDoor.Mx
