/- Texts that this proof leans on, one behind the other: Gt5. -/
import Derived.Test.YtjhefbenmhmbcaaDoorQau
import Derived.Deep.MidRow
set_option linter.unusedVariables false
set_option linter.unusedSimpArgs false
set_option maxRecDepth 100000
set_option maxHeartbeats 12800000
namespace Go.Proofs.YtjhefbenmhmbcaaDoor.Ge
open Go.RowKit Go.Maps Go.Proofs.YtjhefbenmhmbcaaDoor.Ar Go.Proofs.YtjhefbenmhmbcaaDoor.Mx Go.Proofs.YtjhefbenmhmbcaaDoor.Mp Go.Proofs.YtjhefbenmhmbcaaDoor.Ch Go.Proofs.YtjhefbenmhmbcaaDoor.Dw
theorem ch12 {w:World} {b:Nat} (k0 k1 k2 k3 k4 k5 k6 k7 k8 k9 k10 k11:Value):w.setCells b 13 [k0,k1,k2,k3,k4,k5,k6,k7,k8,k9,k10,k11]=((((((((((((w.setCell ⟨b,13,none⟩ k0).setCell ⟨b,14,none⟩ k1).setCell ⟨b,15,none⟩ k2).setCell ⟨b,16,none⟩ k3).setCell ⟨b,17,none⟩ k4).setCell ⟨b,18,none⟩ k5).setCell ⟨b,19,none⟩ k6).setCell ⟨b,20,none⟩ k7).setCell ⟨b,21,none⟩ k8).setCell ⟨b,22,none⟩ k9).setCell ⟨b,23,none⟩ k10).setCell ⟨b,24,none⟩ k11):=rfl
theorem fr12 {w:World} {b:Nat} (k0 k1 k2 k3 k4 k5 k6 k7 k8 k9 k10 k11:Value):Fr [b] w ((((((((((((w.setCell ⟨b,13,none⟩ k0).setCell ⟨b,14,none⟩ k1).setCell ⟨b,15,none⟩ k2).setCell ⟨b,16,none⟩ k3).setCell ⟨b,17,none⟩ k4).setCell ⟨b,18,none⟩ k5).setCell ⟨b,19,none⟩ k6).setCell ⟨b,20,none⟩ k7).setCell ⟨b,21,none⟩ k8).setCell ⟨b,22,none⟩ k9).setCell ⟨b,23,none⟩ k10).setCell ⟨b,24,none⟩ k11) :=
 ((((((((((((Fr.setCell (S:=[b]) (b:=b) _ (by simp)).setCell' (b:=b) _ (by simp)).setCell' (b:=b) _ (by simp)).setCell' (b:=b) _ (by simp)).setCell' (b:=b) _ (by simp)).setCell' (b:=b) _ (by simp)).setCell' (b:=b) _ (by simp)).setCell' (b:=b) _ (by simp)).setCell' (b:=b) _ (by simp)).setCell' (b:=b) _ (by simp)).setCell' (b:=b) _ (by simp)).setCell' (b:=b) _ (by simp))
theorem ob12 {w:World} {b:Nat} {c:Cf} {key st:Int} {y:Wc} {l0 l1 l2 l3 l4 l5 l6 l7 l8 l9 l10 l11:Value} (h:Ob w b 63 (gcs c key st y l0 l1 l2 l3 l4 l5 l6 l7 l8 l9 l10 l11)) (k0 k1 k2 k3 k4 k5 k6 k7 k8 k9 k10 k11:Value) :
  Ob ((((((((((((w.setCell ⟨b,13,none⟩ k0).setCell ⟨b,14,none⟩ k1).setCell ⟨b,15,none⟩ k2).setCell ⟨b,16,none⟩ k3).setCell ⟨b,17,none⟩ k4).setCell ⟨b,18,none⟩ k5).setCell ⟨b,19,none⟩ k6).setCell ⟨b,20,none⟩ k7).setCell ⟨b,21,none⟩ k8).setCell ⟨b,22,none⟩ k9).setCell ⟨b,23,none⟩ k10).setCell ⟨b,24,none⟩ k11) b 63 (gcs c key st y k0 k1 k2 k3 k4 k5 k6 k7 k8 k9 k10 k11):=by
 have:=((((((((((((h.set (i:=13) k0).set (i:=14) k1).set (i:=15) k2).set (i:=16) k3).set (i:=17) k4).set (i:=18) k5).set (i:=19) k6).set (i:=20) k7).set (i:=21) k8).set (i:=22) k9).set (i:=23) k10).set (i:=24) k11)
 rwa [gcs_lk] at this
theorem th12 {w:World} {b:Nat} {c:Cf} {key st:Int} {y:Wc} {l0 l1 l2 l3 l4 l5 l6 l7 l8 l9 l10 l11:Value} (h:Ob w b 63 (gcs c key st y l0 l1 l2 l3 l4 l5 l6 l7 l8 l9 l10 l11)):w.there b 13 12:=fun j hj=>by
 rcases (by omega:j=0∨j=1∨j=2∨j=3∨j=4∨j=5∨j=6∨j=7∨j=8∨j=9∨j=10∨j=11) with rfl | rfl | rfl | rfl | rfl | rfl | rfl | rfl | rfl | rfl | rfl | rfl
 ·exact ⟨by rw [show 13+0=13 from rfl,h.cell (i:=13) rfl];rfl,h.frozen _⟩
 ·exact ⟨by rw [show 13+1=14 from rfl,h.cell (i:=14) rfl];rfl,h.frozen _⟩
 ·exact ⟨by rw [show 13+2=15 from rfl,h.cell (i:=15) rfl];rfl,h.frozen _⟩
 ·exact ⟨by rw [show 13+3=16 from rfl,h.cell (i:=16) rfl];rfl,h.frozen _⟩
 ·exact ⟨by rw [show 13+4=17 from rfl,h.cell (i:=17) rfl];rfl,h.frozen _⟩
 ·exact ⟨by rw [show 13+5=18 from rfl,h.cell (i:=18) rfl];rfl,h.frozen _⟩
 ·exact ⟨by rw [show 13+6=19 from rfl,h.cell (i:=19) rfl];rfl,h.frozen _⟩
 ·exact ⟨by rw [show 13+7=20 from rfl,h.cell (i:=20) rfl];rfl,h.frozen _⟩
 ·exact ⟨by rw [show 13+8=21 from rfl,h.cell (i:=21) rfl];rfl,h.frozen _⟩
 ·exact ⟨by rw [show 13+9=22 from rfl,h.cell (i:=22) rfl];rfl,h.frozen _⟩
 ·exact ⟨by rw [show 13+10=23 from rfl,h.cell (i:=23) rfl];rfl,h.frozen _⟩
 ·exact ⟨by rw [show 13+11=24 from rfl,h.cell (i:=24) rfl];rfl,h.frozen _⟩
theorem cells12 {w:World} {b:Nat} {T:TypeId} {l0 l1 l2 l3 l4 l5 l6 l7 l8 l9 l10 l11:Value} (h:Ob w b T #[l0,l1,l2,l3,l4,l5,l6,l7,l8,l9,l10,l11]):w.cell? ⟨b,0,none⟩=some l0∧w.cell? ⟨b,1,none⟩=some l1∧w.cell? ⟨b,2,none⟩=some l2∧w.cell? ⟨b,3,none⟩=some l3∧w.cell? ⟨b,4,none⟩=some l4∧w.cell? ⟨b,5,none⟩=some l5∧w.cell? ⟨b,6,none⟩=some l6∧w.cell? ⟨b,7,none⟩=some l7∧w.cell? ⟨b,8,none⟩=some l8∧w.cell? ⟨b,9,none⟩=some l9∧w.cell? ⟨b,10,none⟩=some l10∧w.cell? ⟨b,11,none⟩=some l11 :=
 ⟨h.cell rfl,h.cell rfl,h.cell rfl,h.cell rfl,h.cell rfl,h.cell rfl,h.cell rfl,h.cell rfl,h.cell rfl,h.cell rfl,h.cell rfl,h.cell rfl⟩
theorem gcells {w:World} {b:Nat} {c:Cf} {key st:Int} {y:Wc} {l0 l1 l2 l3 l4 l5 l6 l7 l8 l9 l10 l11:Value} (h:Ob w b 63 (gcs c key st y l0 l1 l2 l3 l4 l5 l6 l7 l8 l9 l10 l11)):(w.cell? ⟨b,0,none⟩=some (.int .i64 c.t)∧w.cell? ⟨b,1,none⟩=some (.int .i64 c.c)∧w.cell? ⟨b,2,none⟩=some (.int .i64 c.wd)∧w.cell? ⟨b,3,none⟩=some (.int .i64 c.v)∧w.cell? ⟨b,4,none⟩=some (.int .i64 key)∧w.cell? ⟨b,5,none⟩=some (.int .i64 st))∧(w.cell? ⟨b,13,none⟩=some l0∧w.cell? ⟨b,14,none⟩=some l1∧w.cell? ⟨b,15,none⟩=some l2∧w.cell? ⟨b,16,none⟩=some l3∧w.cell? ⟨b,17,none⟩=some l4∧w.cell? ⟨b,18,none⟩=some l5∧w.cell? ⟨b,19,none⟩=some l6∧w.cell? ⟨b,20,none⟩=some l7∧w.cell? ⟨b,21,none⟩=some l8∧w.cell? ⟨b,22,none⟩=some l9∧w.cell? ⟨b,23,none⟩=some l10∧w.cell? ⟨b,24,none⟩=some l11) :=
 ⟨⟨h.cell rfl,h.cell rfl,h.cell rfl,h.cell rfl,h.cell rfl,h.cell rfl⟩,h.cell rfl,h.cell rfl,h.cell rfl,h.cell rfl,h.cell rfl,h.cell rfl,h.cell rfl,h.cell rfl,h.cell rfl,h.cell rfl,h.cell rfl,h.cell rfl⟩
theorem gturn_any {w:World} {b p q:Nat} {c:Cf} {key:Int} {x:Wk} {s:St} (h:GeW w b c key x) (h0:x.line≠0) (hf:Fl w) (hA:Ar w p q s) (hne:b≠p∧b≠q) (hg:0≠p∧0≠q) (hv:x.line=5→atU (peek s.l x.looks)=atW (peek s.l x.looks)) (h1:(x.step s).1.line=0) :
  Calls Tryd.prog 9 #[.pointer (some ⟨b,0,none⟩),.pointer (some ⟨p,0,none⟩)] w fun e w'=>e = .returned (.bool false)∧(∃ m,w.heap.size≤m∧GeL w' b m 0 c key 1 (Lok.new c (x.step s).1.at_ key key 1073741824))∧Ar w' p q (x.step s).2∧Fr [b,p,q] w w':=by
 have hbl:=h.lt
 obtain ⟨y,k1,k2⟩:=h
 have e5:¬ y.line=5:=fun k=>h0 (k1.over.1 k)
 have hl:x.live=true:=by rcases k1.ln with k | k;exact absurd k h0;exact k
 have es:x.step s=(x.next (peek s.l x.looks),s.load x.looks):=by unfold Wk.step;rw [if_pos hl]
 have hst:=Dw.dstep_any (o:=6) k1.bd k2 rfl hf hA hne hg
 rw [if_neg e5,if_neg e5,k1.looks h0] at hst
 rw [es] at h1 ⊢
 have k3:=k1.step h0 (peek s.l x.looks) hv
 have HST:=Lib.hid hst
 have c5:w.cell? ⟨b,5,none⟩=some (.int .i64 0):=(gw_ob k2).cell (i:=5) rfl
 have n5:(y.step (peek s.l x.looks)).line=5:=k3.over.2 h1
 have na:=k3.at_ h1
 simp only
 generalize x.next (peek s.l x.looks)=x2 at *
 generalize y.step (peek s.l x.looks)=y2 at *
 have HK:=Lib.hid (And.intro n5 (And.intro na (And.intro hbl hne)))
 clear hst k1 k2 k3 hA hf hv h0 h1 e5 hl es n5 na hbl hne
 go_enter Tryd.func9,Tryd.ntmps9
 go_wp2_with fail
 refine HST.out.mono ?_;rintro e w1 ⟨rfl,j1,j2,j3⟩
 rw [decide_eq_true HK.out.1]
 have HJ:=Lib.hid (And.intro j1 (And.intro j2 j3))
 have hsz:=j3.size
 have hob:=gw_ob j1
 obtain ⟨⟨c0,c1,c2,c3,c4,c5'⟩,-⟩:=gcells hob
 have hch:=Lib.hid (show ∀ wz,Fr [] w1 wz→Calls Tryd.prog 22 #[.pointer (some ⟨b,6,none⟩)] wz fun e w'=>e = .returned (.int .i64 x2.at_)∧wz=w' from fun wz Fz=>by
  have:=dchunk_any (o:=6) (Pb.up j1 Fz) rfl
  rw [if_pos HK.out.1,HK.out.2.1] at this
  exact this)
 have HOB:=Lib.hid hob
 clear j1 j2 j3 HST c5 hob
 go_wp2_with fail
 refine wp_region_free (by kernel_rfl) ?_
 refine any_envL [] w1 #[true,true,true,true,true,true,true,true,true,true,true,true,true,true,true,true,true,true,true,true,false,false,false] 20 3 rfl ?_
 refine envT_pass [true,true,true,true,true,true,true,true,true,true,true,true,true,true,true,true,true,false,false,false,false,false,false] 3 (n:=56) (listed':=#[true,true,true,true,true,true,true,true,true,true,true,true,true,true,true,true,true,false,false,false,false,false,false]) rfl (by kernel_rfl) (by kernel_rfl) (by kernel_rfl) (by kernel_rfl) (by kernel_rfl) rfl (by kernel_rfl) (fun _ _ d _ _ h=>by cases d <;> exact h) ((Fr.refl _ w1).drew) ?_
 apply Exists.intro
 refine ⟨fun wf Ff=>?_,?_⟩
 ·have i0:=In.cell (Ff.cell c0 (by simp))
  have i1:=In.cell (Ff.cell c1 (by simp))
  have i2:=In.cell (Ff.cell c2 (by simp))
  have i3:=In.cell (Ff.cell c3 (by simp))
  have i4:=In.cell (Ff.cell c4 (by simp))
  have HFf:=Lib.hid Ff
  simp only [sel]
  repeat (go_big_quiet_step ((go_at_call 22;exact Calls.in_same (hch.out _ (HFf.out.trans (In.fr _))))))
  exact wpQuiet_nil rfl
 clear c0 c1 c2 c3 c4 c5'
 refine loq 17 (fun w3 F3=>?_)
 have D3:=(Fr.refl [] w1).drew.trans F3
 clear F3
 go_wp2_with fail
 refine (dlook_any c x2.at_ key key 1073741824 _).mono ?_;rintro e w4 ⟨bl,m,rfl,hbl,hm,hblm,o4,g4,F4⟩
 have D4:=D3.trans F4
 have hs3:=D3.size
 clear F4
 go_wp2_with fail
 refine nx_normal ⟨D4,?_⟩
 refine loq 18 (fun w5 F5=>?_)
 have D5:=D4.trans F5
 have o5:=o4.up F5
 have g5:=g4.up F5
 clear F5 D4 o4 g4
 go_wp2_with fail
 refine nx_normal ⟨D5,?_⟩
 refine loq 19 (fun w6 F6=>?_)
 have D6:=D5.trans F6
 have o6:=o5.up F6
 have g6:=g5.up F6
 unfold lkc at o6
 obtain ⟨a0,a1,a2,a3,a4,a5,a6,a7,a8,a9,a10,a11⟩:=cells12 o6
 clear F6 D5 o5 g5 D3
 go_wp2_with fail
 refine nx_normal ⟨D6,?_⟩
 refine envL_tail (k:=20) rfl (by kernel_rfl) (fun w7 F7=>?_)
 have D7:=D6.trans F7
 have g7:=g6.up F7
 have o7:=HOB.out.up D7
 have HG:=Lib.hid (And.intro g7 (And.intro D7 (And.intro hbl (And.intro hm (And.intro hs3 hsz)))))
 clear D6 F7 o6 g6 a0 a1 a2 a3 a4 a5 a6 a7 a8 a9 a10 a11 hbl hm hs3 hsz g7 D7
 have o8:=ob12 o7 (.int .i64 1073741824) (.int .i64 x2.at_) (.int .i64 key) (.int .i64 key) (.int .i64 c.c) (.int .i64 0) (.int .i64 0) (.int .i64 0) (.int .i64 0) (.int .i64 0) (.int .i64 0) (.map (some m))
 have F8:=fr12 (w:=w7) (b:=b) (.int .i64 1073741824) (.int .i64 x2.at_) (.int .i64 key) (.int .i64 key) (.int .i64 c.c) (.int .i64 0) (.int .i64 0) (.int .i64 0) (.int .i64 0) (.int .i64 0) (.int .i64 0) (.map (some m))
 have HTH:=Lib.hid (th12 o7)
 rw [← ch12] at o8 F8
 have n5:=o8.cell (i:=5) (v:=.int .i64 0) rfl
 have z5:=o8.frozen 5
 have o9:=Ob.set (i:=5) o8 (.int .i64 1)
 rw [gcs_st] at o9
 have HO8:=Lib.hid (And.intro o9 F8)
 clear o8 F8 o7 o9
 go_wp2_with (refine wpList_store_mid rfl 61 _ _ rfl b 13 #[.int .i64 1073741824,.int .i64 x2.at_,.int .i64 key,.int .i64 key,.int .i64 c.c,.int .i64 0,.int .i64 0,.int .i64 0,.int .i64 0,.int .i64 0,.int .i64 0,.map (some m)] rfl rfl HTH.out (by kernel_rfl) (by simp [Value.oneCell']) ?_;clear HTH;generalize World.setCells _ _ _ _=w8 at *)
 go_ret
 have hg1:=HG.out
 have hk1:=HK.out
 have hmb:m≠b:=by omega
 have F9:Fr [b] w7 (w8.setCell ⟨b,5,none⟩ (.int .i64 1)):=HO8.out.2.setCell' (b:=b) _ (by simp)
 have FF:Fr [b] w1 (w8.setCell ⟨b,5,none⟩ (.int .i64 1)):=(hg1.2.1.mono (by simp)).trans F9
 have hgm:GMap (w8.setCell ⟨b,5,none⟩ (.int .i64 1)) m 0 (mapG (Ek.keyG (Lok.new c x2.at_ key key 1073741824).l)):=by
  have:=hg1.1.kept F9 (by simp;exact hmb)
  have e:(fun _=>none:Int→Option Value)=mapG (Ek.keyG (Lok.new c x2.at_ key key 1073741824).l):=by funext k;rfl
  rw [← e];exact this
 refine ⟨rfl,⟨m,by omega,gl_of (cell:=0) (fun _=>rfl) hgm HO8.out.1⟩,HJ.out.2.1.kept FF (by simp;exact fun e=>hk1.2.2.2.1 e.symm) (by simp;exact fun e=>hk1.2.2.2.2 e.symm),HJ.out.2.2.trans (FF.mono)⟩
end Go.Proofs.YtjhefbenmhmbcaaDoor.Ge
