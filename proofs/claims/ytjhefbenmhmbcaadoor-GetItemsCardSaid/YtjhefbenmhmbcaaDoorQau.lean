/- Texts that this proof leans on, one behind the other: Gt2, Gt3. -/
import Derived.Test.YtjhefbenmhmbcaaDoorQab
import Derived.Test.YtjhefbenmhmbcaaDoorQan
import Derived.Test.YtjhefbenmhmbcaaDoorQat
set_option linter.unusedVariables false
set_option linter.unusedSimpArgs false
set_option maxRecDepth 100000
set_option maxHeartbeats 12800000
namespace Go.Proofs.YtjhefbenmhmbcaaDoor.Ge
open Go.RowKit Go.Maps Go.Proofs.YtjhefbenmhmbcaaDoor.Ar Go.Proofs.YtjhefbenmhmbcaaDoor.Mx Go.Proofs.YtjhefbenmhmbcaaDoor.Mp Go.Proofs.YtjhefbenmhmbcaaDoor.Ch Go.Proofs.YtjhefbenmhmbcaaDoor.Dw
def gpre (c:Cf) (key st:Int):Array Value:=#[.int .i64 c.t,.int .i64 c.c,.int .i64 c.wd,.int .i64 c.v,.int .i64 key,.int .i64 st]
def zlk:Array Value:=#[.int .i64 0,.int .i64 0,.int .i64 0,.int .i64 0,.int .i64 0,.int .i64 0,.int .i64 0,.int .i64 0,.int .i64 0,.int .i64 0,.int .i64 0,.map none]
theorem wc_arr (c:Cf) (key st:Int) (y:Wc):(gpre c key st)++y.cells++zlk = #[.int .i64 c.t,.int .i64 c.c,.int .i64 c.wd,.int .i64 c.v,.int .i64 key,.int .i64 st,.int .i64 y.key,.int .i64 y.line,.int .i64 y.a0,.int .i64 y.a1,.int .i64 y.a2,.int .i64 y.a3,.int .i64 y.a4,.int .i64 0,.int .i64 0,.int .i64 0,.int .i64 0,.int .i64 0,.int .i64 0,.int .i64 0,.int .i64 0,.int .i64 0,.int .i64 0,.int .i64 0,.map none]:=by
 apply Array.ext'
 rw [Array.toList_append,Array.toList_append]
 rfl
theorem wc_lit (c:Cf) (key:Int) (y:Wc) {w:World} {b:Nat} (h:Ob w b 63 #[.int .i64 c.t,.int .i64 c.c,.int .i64 c.wd,.int .i64 c.v,.int .i64 key,.int .i64 0,.int .i64 y.key,.int .i64 y.line,.int .i64 y.a0,.int .i64 y.a1,.int .i64 y.a2,.int .i64 y.a3,.int .i64 y.a4,.int .i64 0,.int .i64 0,.int .i64 0,.int .i64 0,.int .i64 0,.int .i64 0,.int .i64 0,.int .i64 0,.int .i64 0,.int .i64 0,.int .i64 0,.map none]):WcAt w b 63 (gpre c key 0) zlk y:=by
 unfold WcAt Pb
 rw [wc_arr]
 exact h
def GeW (w:World) (b:Nat) (c:Cf) (key:Int) (x:Wk):Prop:=∃ y,WkR x y∧WcAt w b 63 (gpre c key 0) zlk y
theorem GeW.lt {w:World} {b:Nat} {c:Cf} {key:Int} {x:Wk} (h:GeW w b c key x):b<w.heap.size:=by
 obtain ⟨y,h1,h2⟩:=h
 exact Pb.lt h2
theorem gnew_any (c:Cf) (hc:c.Ok) (key:Int) (hk:0≤key∧key≤63) (w:World):Calls Tryd.prog 8 #[c.val,.int .i64 key] w fun e w'=>∃ b,e = .returned (.pointer (some ⟨b,0,none⟩))∧w.heap.size≤b∧GeW w' b c key (Wk.new c key)∧Fr [] w w':=by
 unfold Cf.val
 obtain ⟨c0,c1,c2,c3⟩:=Pl.cells4 (Go.heap_alloc_new w (.cells #[.int .i64 c.t,.int .i64 c.c,.int .i64 c.wd,.int .i64 c.v] 34))
 have F0:=(Fr.refl [] w).alloc (.cells #[.int .i64 c.t,.int .i64 c.c,.int .i64 c.wd,.int .i64 c.v] 34)
 have HC:=Lib.hid (And.intro hc hk)
 have HN:=Lib.hid (fun w=>dnew_any c hc key hk w)
 clear hc hk
 go_enter Tryd.func8,Tryd.ntmps8
 go_wp2_with fail
 generalize hw1:(w.alloc (.cells #[.int .i64 c.t,.int .i64 c.c,.int .i64 c.wd,.int .i64 c.v] 34))=w1 at *
 refine wp_region_free (by kernel_rfl) ?_
 refine any_envL [] w1 #[true,true,true,true,true,true,true,true,true,false] 9 1 rfl ?_
 refine envT_pass [true,true,true,true,false,false,false,false,false,false] 5 (n:=14) (listed':=#[true,true,true,true,false,false,false,false,false,false]) rfl (by kernel_rfl) (by kernel_rfl) (by kernel_rfl) (by kernel_rfl) (by kernel_rfl) rfl (by kernel_rfl) (fun _ _ d _ _ h=>by cases d <;> exact h) ((Fr.refl _ w1).drew) ?_
 apply Exists.intro
 refine ⟨fun wf Ff=>?_,?_⟩
 ·have k0:=In.cell (Ff.cell c0 (by simp))
  have k1:=In.cell (Ff.cell c1 (by simp))
  have k2:=In.cell (Ff.cell c2 (by simp))
  have k3:=In.cell (Ff.cell c3 (by simp))
  simp only [sel]
  repeat (go_big_quiet_step (fail))
  exact wpQuiet_nil rfl
 clear c0 c1 c2 c3
 refine loq 4 (fun w3 F3=>?_)
 have D3:=(Fr.refl [] w1).drew.trans F3
 clear F3
 go_wp2_with fail
 refine (HN.out _).mono ?_;rintro e w4 ⟨bw,rfl,hbw,D,F4⟩
 have D4:=D3.trans F4
 clear F4
 go_wp2_with fail
 refine nx_normal ⟨D4,?_⟩
 refine loq 5 (fun w5 F5=>?_)
 have D5:=D4.trans F5
 have E5:WcAt w5 bw 57 #[] #[] (Wc.new c key):=Pb.up D F5
 clear D F5 D4
 go_wp2_with fail
 refine nx_normal ⟨D5,?_⟩
 refine loq 6 (fun w6 F6=>?_)
 have D6:=D5.trans F6
 have E6:WcAt w6 bw 57 #[] #[] (Wc.new c key):=Pb.up E5 F6
 obtain ⟨a0,a1,a2,a3,a4,a5,a6⟩:=wc_cells E6 (o:=0) rfl
 clear E5 F6 D5
 go_wp2_with fail
 refine nx_normal ⟨D6,?_⟩
 refine loq 7 (fun w7 F7=>?_)
 have D7:=D6.trans F7
 clear E6 F7 D6 a0 a1 a2 a3 a4 a5 a6
 go_wp2_with fail
 refine nx_normal ⟨D7,?_⟩
 refine loq 8 (fun w8 F8=>?_)
 have D8:=D7.trans F8
 have hs8:=(F0.trans D8).size
 have oG:=Ob.new w8 63 #[.int .i64 c.t,.int .i64 c.c,.int .i64 c.wd,.int .i64 c.v,.int .i64 key,.int .i64 0,.int .i64 (Wc.new c key).key,.int .i64 (Wc.new c key).line,.int .i64 (Wc.new c key).a0,.int .i64 (Wc.new c key).a1,.int .i64 (Wc.new c key).a2,.int .i64 (Wc.new c key).a3,.int .i64 (Wc.new c key).a4,.int .i64 0,.int .i64 0,.int .i64 0,.int .i64 0,.int .i64 0,.int .i64 0,.int .i64 0,.int .i64 0,.int .i64 0,.int .i64 0,.int .i64 0,.map none]
 have FA:=(Fr.refl [] w8).alloc (.cells #[.int .i64 c.t,.int .i64 c.c,.int .i64 c.wd,.int .i64 c.v,.int .i64 key,.int .i64 0,.int .i64 (Wc.new c key).key,.int .i64 (Wc.new c key).line,.int .i64 (Wc.new c key).a0,.int .i64 (Wc.new c key).a1,.int .i64 (Wc.new c key).a2,.int .i64 (Wc.new c key).a3,.int .i64 (Wc.new c key).a4,.int .i64 0,.int .i64 0,.int .i64 0,.int .i64 0,.int .i64 0,.int .i64 0,.int .i64 0,.int .i64 0,.int .i64 0,.int .i64 0,.int .i64 0,.map none] 63)
 clear F8 D7
 go_wp2_with fail
 generalize World.alloc w8 _=w9 at *
 generalize w8.heap.size=bg at *
 refine nx_normal ⟨D8.trans FA,?_⟩
 refine envL_tail (k:=9) rfl (by kernel_rfl) (fun w10 F10=>?_)
 have HF:=Lib.hid (F0.trans ((D8.trans FA).trans F10))
 have HB:=Lib.hid (And.intro hs8 (show WcAt w10 bg 63 (gpre c key 0) zlk (Wc.new c key) from wc_lit c key (Wc.new c key) (oG.up F10)))
 clear oG FA F10 D8 hs8
 go_wp2_with fail
 go_ret
 exact ⟨bg,rfl,HB.out.1,⟨_,WkR.new HC.out.1 HC.out.2,HB.out.2⟩,HF.out⟩
def lkc (chunk lo hi most room:Int) (m:Nat):Array Value:=#[.int .i64 most,.int .i64 chunk,.int .i64 lo,.int .i64 hi,.int .i64 room,.int .i64 0,.int .i64 0,.int .i64 0,.int .i64 0,.int .i64 0,.int .i64 0,.map (some m)]
theorem gm_alloc' {w:World} {b n:Nat} {g:Int→Option Value} (h:GMap w b n g) (o:Obj):GMap (w.alloc o) b n g:=h.kept ((Fr.refl [] w).alloc o) (by simp)
theorem dlook_any (c:Cf) (chunk lo hi most:Int) (w:World):Calls Tryd.prog 21 #[c.val,.int .i64 chunk,.int .i64 lo,.int .i64 hi,.int .i64 most] w fun e w'=>∃ b m,e = .returned (.pointer (some ⟨b,0,none⟩))∧w.heap.size≤b∧w.heap.size≤m∧b≠m∧Ob w' b 61 (lkc chunk lo hi most c.c m)∧GMap w' m 0 (fun _=>none)∧Fr [] w w':=by
 unfold Cf.val
 obtain ⟨c0,c1,c2,c3⟩:=Pl.cells4 (Go.heap_alloc_new w (.cells #[.int .i64 c.t,.int .i64 c.c,.int .i64 c.wd,.int .i64 c.v] 34))
 have F0:=(Fr.refl [] w).alloc (.cells #[.int .i64 c.t,.int .i64 c.c,.int .i64 c.wd,.int .i64 c.v] 34)
 go_enter Tryd.func21,Tryd.ntmps21
 have hmm:=@run_makeMap Tryd.prog
 have m0:=GMap.made (w.alloc (.cells #[.int .i64 c.t,.int .i64 c.c,.int .i64 c.wd,.int .i64 c.v] 34))
 go_wp2
 go_ret
 rw [sizeA] at m0
 refine ⟨w.heap.size+1+1,w.heap.size+1,rfl,by omega,by omega,by omega,Ob.newAt (by rw [sizeA,sizeA]) _ _,?_,(F0.alloc _).alloc _⟩
 exact gm_alloc' m0 _
def gcs (c:Cf) (key st:Int) (y:Wc) (l0 l1 l2 l3 l4 l5 l6 l7 l8 l9 l10 l11:Value):Array Value:=#[.int .i64 c.t,.int .i64 c.c,.int .i64 c.wd,.int .i64 c.v,.int .i64 key,.int .i64 st,.int .i64 y.key,.int .i64 y.line,.int .i64 y.a0,.int .i64 y.a1,.int .i64 y.a2,.int .i64 y.a3,.int .i64 y.a4,l0,l1,l2,l3,l4,l5,l6,l7,l8,l9,l10,l11]
def lk12 (l0 l1 l2 l3 l4 l5 l6 l7 l8 l9 l10 l11:Value):Array Value:=#[l0,l1,l2,l3,l4,l5,l6,l7,l8,l9,l10,l11]
theorem gcs_arr (c:Cf) (key st:Int) (y:Wc) (l0 l1 l2 l3 l4 l5 l6 l7 l8 l9 l10 l11:Value):(gpre c key st)++y.cells++lk12 l0 l1 l2 l3 l4 l5 l6 l7 l8 l9 l10 l11=gcs c key st y l0 l1 l2 l3 l4 l5 l6 l7 l8 l9 l10 l11:=by
 apply Array.ext'
 rw [Array.toList_append,Array.toList_append]
 rfl
theorem gcs_arr2 (c:Cf) (key st:Int) (y:Wc) (l0 l1 l2 l3 l4 l5 l6 l7 l8 l9 l10 l11:Value):((gpre c key st)++y.cells)++lk12 l0 l1 l2 l3 l4 l5 l6 l7 l8 l9 l10 l11++#[]=gcs c key st y l0 l1 l2 l3 l4 l5 l6 l7 l8 l9 l10 l11:=by
 rw [gcs_arr,Array.append_empty]
theorem gcs_st (c:Cf) (key st st':Int) (y:Wc) (l0 l1 l2 l3 l4 l5 l6 l7 l8 l9 l10 l11:Value):(gcs c key st y l0 l1 l2 l3 l4 l5 l6 l7 l8 l9 l10 l11).setIfInBounds 5 (.int .i64 st')=gcs c key st' y l0 l1 l2 l3 l4 l5 l6 l7 l8 l9 l10 l11:=rfl
theorem gcs_lk (c:Cf) (key st:Int) (y:Wc) (l0 l1 l2 l3 l4 l5 l6 l7 l8 l9 l10 l11 k0 k1 k2 k3 k4 k5 k6 k7 k8 k9 k10 k11:Value):((((((((((((gcs c key st y l0 l1 l2 l3 l4 l5 l6 l7 l8 l9 l10 l11).setIfInBounds 13 k0).setIfInBounds 14 k1).setIfInBounds 15 k2).setIfInBounds 16 k3).setIfInBounds 17 k4).setIfInBounds 18 k5).setIfInBounds 19 k6).setIfInBounds 20 k7).setIfInBounds 21 k8).setIfInBounds 22 k9).setIfInBounds 23 k10).setIfInBounds 24 k11=gcs c key st y k0 k1 k2 k3 k4 k5 k6 k7 k8 k9 k10 k11:=by
 apply Array.ext'
 simp only [Array.toList_setIfInBounds]
 rfl
def GeL (w:World) (b m n:Nat) (c:Cf) (key st:Int) (z:Lok):Prop:=∃ y:Wc,Ek.DkIs w b 13 63 (gpre c key st++y.cells) #[] m n z
theorem GeL.kept {S:List Nat} {w w':World} {b m n:Nat} {c:Cf} {key st:Int} {z:Lok} (h:GeL w b m n c key st z) (f:Fr S w w') (hb:b∉S) (hm:m∉S):GeL w' b m n c key st z:=by
 obtain ⟨y,h1⟩:=h
 exact ⟨y,h1.kept f hb hm⟩
theorem gw_ob {w:World} {b:Nat} {c:Cf} {key:Int} {y:Wc} (h:WcAt w b 63 (gpre c key 0) zlk y):Ob w b 63 (gcs c key 0 y (.int .i64 0) (.int .i64 0) (.int .i64 0) (.int .i64 0) (.int .i64 0) (.int .i64 0) (.int .i64 0) (.int .i64 0) (.int .i64 0) (.int .i64 0) (.int .i64 0) (.map none)):=by
 unfold WcAt Pb at h
 rw [wc_arr] at h
 exact h
theorem gwalk_any {w:World} {b p q:Nat} {c:Cf} {key:Int} {x:Wk} {s:St} (h:GeW w b c key x) (h0:x.line≠0) (hf:Fl w) (hA:Ar w p q s) (hne:b≠p∧b≠q) (hg:0≠p∧0≠q) (hv:x.line=5→atU (peek s.l x.looks)=atW (peek s.l x.looks)) (h1:(x.step s).1.line≠0) :
  Calls Tryd.prog 9 #[.pointer (some ⟨b,0,none⟩),.pointer (some ⟨p,0,none⟩)] w fun e w'=>e = .returned (.bool false)∧GeW w' b c key (x.step s).1∧Ar w' p q (x.step s).2∧Fr [b,p,q] w w':=by
 obtain ⟨y,k1,k2⟩:=h
 have e5:¬ y.line=5:=fun k=>h0 (k1.over.1 k)
 have hl:x.live=true:=by rcases k1.ln with k | k;exact absurd k h0;exact k
 have es:x.step s=(x.next (peek s.l x.looks),s.load x.looks):=by unfold Wk.step;rw [if_pos hl]
 have hst:=Dw.dstep_any (o:=6) k1.bd k2 rfl hf hA hne hg
 rw [if_neg e5,if_neg e5,k1.looks h0] at hst
 rw [es] at h1 ⊢
 have k3:=k1.step h0 (peek s.l x.looks) hv
 have HST:=Lib.hid hst
 have c5:w.cell? ⟨b,5,none⟩=some (.int .i64 0):=(gw_ob k2).cell (i:=5) rfl
 have n5:decide ((y.step (peek s.l x.looks)).line=5)=false:=decide_eq_false (fun k=>h1 (k3.over.1 k))
 have HK:=Lib.hid (And.intro k3 n5)
 clear hst k1 k2 k3 n5 hA hf hv h0 h1 e5 hl es
 go_enter Tryd.func9,Tryd.ntmps9
 go_wp2_with fail
 refine HST.out.mono ?_;rintro e w' ⟨rfl,j1,j2,j3⟩
 rw [HK.out.2]
 have c5':w'.cell? ⟨b,5,none⟩=some (.int .i64 0):=(gw_ob j1).cell (i:=5) rfl
 have HJ:=Lib.hid (And.intro j1 (And.intro j2 j3))
 clear j1 j2 j3 c5 HST
 go_wp2_with fail
 go_ret
 exact ⟨rfl,⟨_,HK.out.1,HJ.out.1⟩,HJ.out.2.1,HJ.out.2.2⟩
theorem gl_ob {w:World} {b m n:Nat} {c:Cf} {key st:Int} {z:Lok} {y:Wc} (h:Ek.DkIs w b 13 63 (gpre c key st++y.cells) #[] m n z):∃ cell,(z.line≠0→cell=z.i)∧GMap w m n (mapG (Ek.keyG z.l))∧Ob w b 63 (gcs c key st y (.int .i64 z.most) (.int .i64 z.chunk) (.int .i64 z.lo) (.int .i64 z.hi) (.int .i64 z.c.c) (.int .i64 z.count) (.int .i64 cell) (.int .i64 (Ek.lnD z)) (.int .i64 z.s) (.int .i64 z.k) (.int .i64 z.g) (.map (some m))):=by
 obtain ⟨cell,h1,h2,h3⟩:=h
 refine ⟨cell,h1,h3,?_⟩
 have h2':Ob w b 63 ((gpre c key st)++y.cells++(Ek.dk z cell (Ek.lnD z)).cells m++#[]):=h2.pb
 rw [show ((gpre c key st)++y.cells++(Ek.dk z cell (Ek.lnD z)).cells m++#[])=gcs c key st y (.int .i64 z.most) (.int .i64 z.chunk) (.int .i64 z.lo) (.int .i64 z.hi) (.int .i64 z.c.c) (.int .i64 z.count) (.int .i64 cell) (.int .i64 (Ek.lnD z)) (.int .i64 z.s) (.int .i64 z.k) (.int .i64 z.g) (.map (some m)) from gcs_arr2 c key st y _ _ _ _ _ _ _ _ _ _ _ _] at h2'
 exact h2'
theorem gl_of {w:World} {b m n:Nat} {c:Cf} {key st:Int} {z:Lok} {y:Wc} {cell:Int} (h1:z.line≠0→cell=z.i) (h3:GMap w m n (mapG (Ek.keyG z.l))) (h2:Ob w b 63 (gcs c key st y (.int .i64 z.most) (.int .i64 z.chunk) (.int .i64 z.lo) (.int .i64 z.hi) (.int .i64 z.c.c) (.int .i64 z.count) (.int .i64 cell) (.int .i64 (Ek.lnD z)) (.int .i64 z.s) (.int .i64 z.k) (.int .i64 z.g) (.map (some m)))):GeL w b m n c key st z:=by
 refine ⟨y,cell,h1,⟨rfl,?_⟩,h3⟩
 show Ob w b 63 ((gpre c key st)++y.cells++(Ek.dk z cell (Ek.lnD z)).cells m++#[])
 rw [show ((gpre c key st)++y.cells++(Ek.dk z cell (Ek.lnD z)).cells m++#[])=gcs c key st y (.int .i64 z.most) (.int .i64 z.chunk) (.int .i64 z.lo) (.int .i64 z.hi) (.int .i64 z.c.c) (.int .i64 z.count) (.int .i64 cell) (.int .i64 (Ek.lnD z)) (.int .i64 z.s) (.int .i64 z.k) (.int .i64 z.g) (.map (some m)) from gcs_arr2 c key st y _ _ _ _ _ _ _ _ _ _ _ _]
 exact h2
def GlPost (w:World) (b m n p q:Nat) (c:Cf) (key:Int) (y:Lok) (s:St) (e:Ending) (w':World):Prop:=e = .returned (.bool (decide (y.line=0)))∧(∃ k,k≤n+1∧GeL w' b m k c key (if y.line=0 then 2 else 1) y)∧Ar w' p q s∧Fr [b,m,p,q] w w'
theorem glook_any {w:World} {b m n p q:Nat} {c:Cf} {key:Int} {z:Lok} {s:St} (h:GeL w b m n c key 1 z) (ok:LokOk z) (ks:Ek.LkS z) (hx:0≤z.line∧z.line≤7) (hs:∀ p,peek s.l p≤9223372036854775807) (t:Word.Tab w) (ht:1≠p∧1≠q) (hn:n<100000) (hne:b≠p∧b≠q∧b≠m∧m≠p∧m≠q) (hA:Ar w p q s) :
  Calls Tryd.prog 9 #[.pointer (some ⟨b,0,none⟩),.pointer (some ⟨p,0,none⟩)] w (GlPost w b m n p q c key (z.step s).1 (z.step s).2):=by
 obtain ⟨y,h1⟩:=h
 have hst:=Ek.dstep_any (o:=13) z ok ks hx b m n p q s hs w t ht hn hne h1 hA
 have HST:=Lib.hid hst
 obtain ⟨cell,-,-,h2⟩:=gl_ob h1
 have c5:w.cell? ⟨b,5,none⟩=some (.int .i64 1):=h2.cell (i:=5) rfl
 have HNE:=Lib.hid hne
 clear hst h1 h2 ok ks hx hs t ht hn hA hne
 go_enter Tryd.func9,Tryd.ntmps9
 go_wp2_with fail
 refine HST.out.mono ?_;rintro e w' ⟨rfl,⟨k,hk,j1⟩,j2,j3⟩
 obtain ⟨cell2,k1,k3,k2⟩:=gl_ob j1
 by_cases hz:(z.step s).1.line=0
 ·rw [decide_eq_true hz]
  have HZ:=Lib.hid (And.intro hz (And.intro hk (And.intro k1 (And.intro k3 (And.intro j2 j3)))))
  have c5':w'.cell? ⟨b,5,none⟩=some (.int .i64 1):=k2.cell (i:=5) rfl
  have zf:=k2.frozen 5
  have o8:=Ob.set (i:=5) k2 (.int .i64 2)
  rw [gcs_st] at o8
  have F8:Fr [b] w' (w'.setCell ⟨b,5,none⟩ (.int .i64 2)):=Fr.setCell (S:=[b]) (b:=b) _ (by simp)
  have c5'':(w'.setCell ⟨b,5,none⟩ (.int .i64 2)).cell? ⟨b,5,none⟩=some (.int .i64 2):=o8.cell (i:=5) rfl
  have HO:=Lib.hid (And.intro o8 F8)
  clear hz hk k1 k3 k2 j1 j2 j3 c5 o8 F8 HST
  go_wp2_with fail
  go_ret
  refine ⟨by rw [decide_eq_true HZ.out.1];rfl,⟨k,HZ.out.2.1,by rw [if_pos HZ.out.1];exact gl_of HZ.out.2.2.1 (HZ.out.2.2.2.1.kept HO.out.2 (by simp;exact fun e=>HNE.out.2.2.1 e.symm)) HO.out.1⟩,HZ.out.2.2.2.2.1.kept HO.out.2 (by simp;exact fun e=>HNE.out.1 e.symm) (by simp;exact fun e=>HNE.out.2.1 e.symm),HZ.out.2.2.2.2.2.trans (HO.out.2.mono (by simp))⟩
 ·rw [decide_eq_false hz]
  have HZN:=Lib.hid hz
  have HZ:=Lib.hid (And.intro hk (And.intro k1 (And.intro k3 (And.intro k2 (And.intro j2 j3)))))
  have c5':w'.cell? ⟨b,5,none⟩=some (.int .i64 1):=k2.cell (i:=5) rfl
  clear hz hk k1 k3 k2 j1 j2 j3 c5 HST
  go_wp2_with fail
  go_ret
  exact ⟨by rw [decide_eq_false HZN.out];rfl,⟨k,HZ.out.1,by rw [if_neg HZN.out];exact gl_of HZ.out.2.1 HZ.out.2.2.1 HZ.out.2.2.2.1⟩,HZ.out.2.2.2.2.1,HZ.out.2.2.2.2.2⟩
end Go.Proofs.YtjhefbenmhmbcaaDoor.Ge
