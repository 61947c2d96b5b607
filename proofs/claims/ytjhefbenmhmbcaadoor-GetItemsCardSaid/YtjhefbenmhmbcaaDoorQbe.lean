/- Texts that this proof leans on, one behind the other: Gt4. -/
import Derived.Test.YtjhefbenmhmbcaaDoorQau
import Derived.Test.YtjhefbenmhmbcaaDoorQbc
import Derived.Test.YtjhefbenmhmbcaaDoorQbd
set_option linter.unusedVariables false
set_option linter.unusedSimpArgs false
set_option maxRecDepth 100000
set_option maxHeartbeats 12800000
namespace Go.Proofs.YtjhefbenmhmbcaaDoor.Ge
open Go.RowKit Go.Maps Go.Proofs.YtjhefbenmhmbcaaDoor.Ar Go.Proofs.YtjhefbenmhmbcaaDoor.Mx Go.Proofs.YtjhefbenmhmbcaaDoor.Mp Go.Proofs.YtjhefbenmhmbcaaDoor.Ch
theorem ditems_any (x:Lok) (hs:x.l.Pairwise fun a b=>a.k<b.k) (b m n:Nat) (hn:n≤1000) (w:World) {o:Nat} {T:TypeId} {pre post:Array Value} (h:Ek.DkIs w b o T pre post m n x) :
  Calls Tryd.prog 25 #[.pointer (some ⟨b,o,none⟩)] w fun e w'=>∃ u,e = .returned u∧w'.ownsRow w.heap.size 26 3 u x.l.length (x.l.flatMap fT)∧Fr [] w w':=by
 obtain ⟨cell,-,h2,h3⟩:=h
 obtain ⟨-,-,-,-,-,-,-,-,-,-,-,c11⟩:=Ek.dc_cells h2
 replace h3:GMap w m n (mapG (Dk.keyG x.l)):=h3
 have F0:=(Fr.refl [] w).alloc (.cells #[.map (some m)] 47)
 have hm:=(cell_of_box_a (Go.heap_alloc_new w (.cells #[.map (some m)] 47))).1
 have hf:=Dk.feedsI 3 (by omega) w.heap.size m n (Dk.keyG x.l) (Dk.keyG_key x.l) _ hm (h3.up F0)
 have H:=Dk.dsfunc_any 59 #[.pointer (some ⟨w.heap.size,0,none⟩)] (enters_of Tryd.func59 (by kernel_rfl) rfl) (fun ss=>(∀ y,y∈ss↔Dk.keyG x.l y.k=some y)∧(ss.Pairwise fun a b=>a.k≠b.k)∧ss.length≤n) n hn _ hf (fun ss e=>Nat.le_trans e.2.2 hn)
 clear hf hm h2 h3
 go_enter Tryd.func25,Tryd.ntmps25
 go_wp2_with fail
 refine (Dk.valuesI_any m w).mono ?_
 rintro e _ ⟨rfl,rfl⟩
 go_wp2_with fail
 refine H.mono ?_
 rintro e w2 ⟨u,ss,c,rfl,⟨h4,h5,-⟩,hp,hc,hrow,F⟩
 obtain rfl:=Dk.sorted_of hs h4 h5 hp hc
 clear H
 have hrow2:w2.ownsRow w.heap.size 26 3 u x.l.length (x.l.flatMap fT):=by
  refine ⟨hrow.1,hrow.2.imp id ?_⟩
  rintro ⟨g,cap,cur,e1,e2,e3⟩
  exact ⟨g,cap,cur,e1,by simp at e2;omega,e3⟩
 clear hrow
 go_wp2_with fail
 go_ret
 exact ⟨u,rfl,hrow2,F0.trans F⟩
theorem ganswer_any {w:World} {b m n:Nat} {c:Cf} {key:Int} {z:Lok} (h:GeL w b m n c key 2 z) (hs:z.l.Pairwise fun a b=>a.k<b.k) (hn:n≤1000) (hl:z.l.length≤1000) (hwf:∀ x,x∈z.l→(Lit.int .i64 x.k).wf=true) (hk:(Lit.int .i64 key).wf=true) (hd:∀ x,lastG z.l key=some x→0≤x.d∧x.d≤9223372036854775807) :
  Calls Tryd.prog 11 #[.pointer (some ⟨b,0,none⟩)] w fun e w'=>e = .returned (ansv (ofA (lastG z.l key)) (.slice none 0 0))∧Fr [] w w':=by
 have F0:=(Fr.refl [] w).alloc (.cells An0 30)
 have oa:=Ob.new w 30 An0
 obtain ⟨y,h1⟩:=h
 have hbl:b<w.heap.size:=by obtain ⟨cell,-,k2,-⟩:=h1;exact k2.lt
 have hml:m<w.heap.size:=by obtain ⟨cell,-,-,k3⟩:=h1;exact k3.lt
 have h2:=h1.kept F0 (by simp) (by simp)
 obtain ⟨cell,-,-,k2⟩:=gl_ob h2
 have c4:=k2.cell (i:=4) (v:=.int .i64 key) rfl
 have c5:=k2.cell (i:=5) (v:=.int .i64 2) rfl
 have H1:=Lib.hid (And.intro h2 (And.intro hs (And.intro hn (And.intro hl (And.intro hwf (And.intro hk hd))))))
 unfold An0 at F0 oa c4 c5 H1
 clear h1 h2 k2 hs hn hl hwf hk hd
 go_enter Tryd.func11,Tryd.ntmps11
 go_wp2_with fail
 generalize hw1:World.alloc w _=w1 at *
 have hbr:b≠w.heap.size∧m≠w.heap.size:=by omega
 have hbr1:=oa.lt
 generalize hbr0:w.heap.size=br at *
 refine wp_region_free (by kernel_rfl) ?_
 refine any_envL [] w1 #[true,true,true,true,true,true,true,true,true,false] 9 1 rfl ?_
 refine envT_pass [true,true,true,false,true,true,true,true,false,false] 2 (n:=18) (listed':=#[true,true,true,false,true,true,true,true,false,false]) rfl (by kernel_rfl) (by kernel_rfl) (by kernel_rfl) (by kernel_rfl) (by kernel_rfl) rfl (by kernel_rfl) (fun _ _ d _ _ h=>by cases d <;> exact h) ((Fr.refl _ w1).drew) ?_
 apply Exists.intro
 refine ⟨fun wf Ff=>?_,?_⟩
 ·have i4:=In.cell (Ff.cell c4 (by simp))
  simp only [sel]
  repeat (go_big_quiet_step (fail))
  exact wpQuiet_nil rfl
 clear c4 c5 hw1 hbl hml
 refine loq 3 (fun w3 F3=>?_)
 have D3:=(Fr.refl [] w1).drew.trans F3
 clear F3
 go_wp2_with fail
 refine (ditems_any z H1.out.2.1 b m n H1.out.2.2.1 _ (o:=13) (H1.out.1.kept D3 (by simp) (by simp))).mono ?_;rintro e w4 ⟨u,rfl,hu,F4⟩
 have D4:=D3.trans F4
 have su:=Sq.own (f:=fT) hu
 clear F4 D3 hu
 go_wp2_with fail
 refine nx_normal ⟨D4,?_⟩
 refine loq 8 (fun w5 F5=>?_)
 have D5:=D4.trans F5
 have su5:=Sq.up su F5
 clear F5 D4 su
 go_wp2_with fail
 refine (dof_any z.l key u _ H1.out.2.2.2.1 H1.out.2.2.2.2.1 H1.out.2.2.2.2.2.1 H1.out.2.2.2.2.2.2 su5).mono ?_;rintro e w6 ⟨rfl,F6⟩
 have D6:=D5.trans F6
 clear F6 D5 su5
 go_wp2_with fail
 refine nx_normal ⟨D6,?_⟩
 refine envL_tail (k:=9) rfl (by kernel_rfl) (fun w7 F7=>?_)
 have D7:=D6.trans F7
 have o7:=oa.up D7
 have HF:=Lib.hid (And.intro (F0.trans D7) (And.intro hbr0 hbr1))
 clear D6 F7 oa D7 F0 hbr0 hbr1 hbr
 obtain ⟨q0,q1,q2,q3,q4,q5⟩:=Mx.cells6 o7
 have zf:=o7.frozen
 generalize han:ofA (lastG z.l key)=an at *
 have HAN:=Lib.hid han
 clear han
 unfold ansv
 go_wp2_with fail
 have o8:=st6_ob o7 (.int .i64 an.code) (.bool an.found) (.int .i64 an.val) (.int .i64 an.writer) (.int .i64 an.version) (.slice none 0 0)
 have F8:=st6_fr (b:=br) (Fr.refl [br] w7) (List.mem_singleton.2 rfl) (.int .i64 an.code) (.bool an.found) (.int .i64 an.val) (.int .i64 an.writer) (.int .i64 an.version) (.slice none 0 0)
 clear q0 q1 q2 q3 q4 q5 zf
 obtain ⟨q0,q1,q2,q3,q4,q5⟩:=Mx.cells6 o8
 refine bodyPost_ret (v:=ansv an (.slice none 0 0)) (by simp [results,Tryd.results11,go_sem,q0,q1,q2,q3,q4,q5,ansv]) rfl ⟨by rw [HAN.out],HF.out.1.own F8 (by have:=HF.out.2.1;simp;omega)⟩
end Go.Proofs.YtjhefbenmhmbcaaDoor.Ge
