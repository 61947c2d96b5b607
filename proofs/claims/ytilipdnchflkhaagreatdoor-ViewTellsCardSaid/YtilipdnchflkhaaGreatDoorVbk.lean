/- Texts that this proof leans on, one behind the other: Open10, Mach7, Open6. -/
import Derived.Test.YtilipdnchflkhaaGreatDoorVad
import Derived.Test.YtilipdnchflkhaaGreatDoorVao
import Derived.Test.YtilipdnchflkhaaGreatDoorVar
import Derived.Test.YtilipdnchflkhaaGreatDoorVbj
set_option linter.unusedVariables false
set_option linter.unusedSimpArgs false
set_option maxRecDepth 100000
set_option maxHeartbeats 12800000
namespace Go.Proofs.YtilipdnchflkhaaGreatDoor.Op10
open Go.ChangeShapes Go.WideShapes Go.ChangeAt Go.RowKit Go.Deep Go.Proofs.YtilipdnchflkhaaGreatDoor.Og Go.Proofs.YtilipdnchflkhaaGreatDoor.Op4 Go.Proofs.YtilipdnchflkhaaGreatDoor.Mx
def Fit (v:Value):Prop:=∀ a n c,v = .slice a n c→n≤c∧c≤maxLen
theorem fit_nil:Fit (.slice none 0 0):=by rintro a n c e;cases e;simp [maxLen]
theorem flat_get {α:Type} {f:α→List Value} {sz:Nat} (hL:Lays f sz) {xs:List α} {j:Nat} {u:Value} (h:(xs.flatMap f)[j]? = some u):∃ x,xs[j / sz]? = some x∧(f x)[j % sz]? = some u:=by
 have hj:=(List.getElem?_eq_some_iff.1 h).1
 rw [hL.flat] at hj
 have hp:=hL.pos
 have hi:j / sz<xs.length:=(Nat.div_lt_iff_lt_mul hp).2 hj
 refine ⟨xs[j / sz],List.getElem?_eq_getElem hi,?_⟩
 have e:=hL.at (xs:=xs) (i:=j / sz) (j:=j % sz) (List.getElem?_eq_getElem hi) (Nat.mod_lt _ hp)
 rw [Nat.div_add_mod'] at e
 rw [← e];exact h
theorem sq_ops {W:World} {v:Value} {os:List O} (h:OpRow W v os) (hf:Fit v):Sq fO W v os:=by
 obtain ⟨a,cap,rfl,hl,hw,hc⟩:=h
 obtain ⟨h1,h2⟩:=hf _ _ _ rfl
 refine ⟨a,cap,rfl,h1,h2,?_⟩
 rcases hc with h0 | ⟨b,off,rfl,hb,hcell⟩
 ·exact .inl h0
 ·refine .inr ⟨b,off,rfl,hb,fun j u hu=>?_⟩
  obtain ⟨o,ho,hu⟩:=flat_get fO_lays hu
  have hi:=(List.getElem?_eq_some_iff.1 ho).1
  obtain ⟨k0,k1,k2,k3⟩:=hcell (j / 4) hi
  have e:nthO os (j / 4)=o:=by unfold nthO;rw [List.getD_eq_getElem?_getD,ho];rfl
  rw [e] at k0 k1 k2 k3
  have ej:off+j=off+j / 4 * 4+j % 4:=by omega
  have h4:j % 4<4:=Nat.mod_lt _ (by decide)
  rw [ej]
  generalize j % 4=r at *
  match r,h4 with
  | 0,_=>simp [fO] at hu;rw [← hu];exact k0
  | 1,_=>simp [fO] at hu;rw [← hu];exact k1
  | 2,_=>simp [fO] at hu;rw [← hu];exact k2
  | 3,_=>simp [fO] at hu;rw [← hu];exact k3
theorem sq_ints {W:World} {v:Value} {zs:List Int} (h:Law.Ints W .i64 v zs) (hf:Fit v):Sq fI W v zs:=by
 obtain ⟨a,cap,rfl,hl,hw,hc⟩:=h
 obtain ⟨h1,h2⟩:=hf _ _ _ rfl
 refine ⟨a,cap,rfl,h1,h2,?_⟩
 rcases hc with h0 | ⟨b,off,rfl,hb,hcell⟩
 ·exact .inl h0
 ·refine .inr ⟨b,off,rfl,hb,fun j u hu=>?_⟩
  obtain ⟨o,ho,hu⟩:=flat_get fI_lays hu
  rw [Nat.div_one] at ho
  have hi:=(List.getElem?_eq_some_iff.1 ho).1
  have k0:=hcell j hi
  rw [List.getD_eq_getElem?_getD,ho] at k0
  rw [Nat.mod_one] at hu
  simp [fI] at hu
  rw [← hu];exact k0
section
variable {H:Type} {enc:TypeId×Value→H} {W:World}
theorem fit_ints {n:Nat} {v:Value} {x:DataW H×List MemPlace} (h:DataW.trod enc Tryz.prog W 0 (fun _=>true) true n 25 [v]=some x):Fit v:=by
 rcases open_ints Tryz.underlying25 Tryz.underlying3 (by kernel_rfl) h with ⟨hcs,hx⟩ | ⟨a,len',cap',zs,hcs,_,hl,hm,hz,hx,hcell,hwz⟩
 ·obtain rfl:v = .slice none 0 0:=by simpa using hcs
  exact fit_nil
 ·obtain rfl:v = .slice (some a) len' cap':=by simpa using hcs
  rintro a n c e;cases e;exact ⟨hl,hm⟩
theorem fit_ops {n:Nat} {v:Value} {x:DataW H×List MemPlace} (h:DataW.trod enc Tryz.prog W 0 (fun _=>true) true n 105 [v]=some x):Fit v:=by
 rcases Law.open_slice_fields Tryz.underlying105 opsOf opsOne opsCells h with ⟨hcs,hx⟩ | ⟨a,len,cap,m,D,Pl,hcs,_,hl,hm,hmm,hx,hi⟩
 ·obtain rfl:v = .slice none 0 0:=by simpa using hcs
  exact fit_nil
 ·obtain rfl:v = .slice (some a) len cap:=by simpa using hcs
  rintro a n c e;cases e;exact ⟨hl,hm⟩
structure Rws (W:World) (v:Value) (rs:List (List O)) (ss:List Sv):Prop where
 r:OpRows W v rs
 sq:Sq fS W v ss
 len:ss.length=rs.length
 row:∀ (i:Nat) (s:Sv) (r:List O),ss[i]? = some s→rs[i]? = some r→Sq fO W s.v r
theorem rows_of_trod {n:Nat} {v:Value} {x:DataW H×List MemPlace} (h:DataW.trod enc Tryz.prog W 0 (fun _=>true) true n 24 [v]=some x):∃ rs ss,Rws W v rs ss:=by
 rcases open_slice Tryz.underlying24 h with ⟨hcs,hx⟩ | ⟨a,len,cap,m,n',D,Pl,hcs,_,hl,hm,hmm,hx,hi⟩
 ·obtain rfl:v = .slice none 0 0:=by simpa using hcs
  exact ⟨[],[],nil_rows W,Sq.nil W,rfl,fun i s r e=>by simp at e⟩
 ·obtain rfl:v = .slice (some a) len cap:=by simpa using hcs
  simp only [if_true] at hmm
  rw [rowCells] at hi
  have key:∀ i,∃ (u:Sv) (os:List O),i<len→W.cell? (a.add i)=some u.v∧OpRow W u.v os∧Fit u.v:=by
   intro i
   by_cases hil:i<len
   ·obtain ⟨cs',hc,ht'⟩:=hi i (by omega)
    obtain ⟨_,hcl,hat⟩:=World.cells?_some hc
    obtain ⟨u,rfl⟩:∃ u,cs'=[u]:=by
     match cs',hcl with
     | [u],_=>exact ⟨u,rfl⟩
    obtain ⟨os,hos⟩:=oprow_of_trod ht'
    have hft:=fit_ops ht'
    have h1:=hat 0 (by decide)
    rw [Nat.mul_one] at h1
    obtain ⟨a1,c1,e1,-⟩:=id hos
    refine ⟨⟨a1,os.length,c1⟩,os,fun _=>⟨?_,?_,?_⟩⟩
    ·show _=some (Value.slice a1 os.length c1)
     rw [← e1];simpa [Addr.add] using h1
    ·show OpRow W (Value.slice a1 os.length c1) os
     rw [← e1];exact hos
    ·show Fit (Value.slice a1 os.length c1)
     rw [← e1];exact hft
   ·exact ⟨⟨none,0,0⟩,[],fun h=>absurd h hil⟩
  obtain ⟨u,h1⟩:=Classical.axiomOfChoice key
  obtain ⟨os,hu⟩:=Classical.axiomOfChoice h1
  have hsq:(len=0∨∃ b off,some a=some ⟨b,off,none⟩∧b<W.heap.size∧∀ i,i<len→W.cell? ⟨b,off+i,none⟩=some (u i).v):=by
   by_cases h0:len=0
   ·exact .inl h0
   ·obtain ⟨b,off,spot⟩:=a
    have h00:=(hu 0 (by omega)).1
    have hspot:spot=none:=by simpa [Addr.add] using World.cell?_spot h00
    subst hspot
    refine .inr ⟨b,off,rfl,?_,fun i hi'=>?_⟩
    ·have:=World.block_lt_of_cell? W _ h00
     simpa [Addr.add] using this
    ·have:=(hu i hi').1
     rwa [add_plain] at this
  refine ⟨(List.range len).map os,(List.range len).map u,⟨some a,cap,fun i=>(u i).v,by simp,by simpa using (by omega:len≤maxLen),by simpa using hsq,fun i hi'=>?_⟩,⟨some a,cap,by simp,by simpa using hl,hm,?_⟩,by simp,fun i s r e1 e2=>?_⟩
  ·have hil:i<len:=by simpa using hi'
   have e:nthR ((List.range len).map os) i=os i:=by unfold nthR;simp [List.getD_eq_getElem?_getD,hil]
   rw [e]
   exact (hu i hil).2.1
  ·rcases hsq with h0 | ⟨b,off,e,hb,hc⟩
   ·exact .inl (by simpa using h0)
   ·refine .inr ⟨b,off,e,hb,fun j x hx=>?_⟩
    obtain ⟨s,hs,hx⟩:=flat_get fS_lays hx
    rw [Nat.div_one] at hs
    rw [Nat.mod_one] at hx
    have hj:=(List.getElem?_eq_some_iff.1 hs).1
    simp at hj
    simp [hj] at hs
    simp [fS] at hx
    rw [hc j hj,hs,hx]
  ·have hj:=(List.getElem?_eq_some_iff.1 e1).1
   simp at hj
   simp [hj] at e1 e2
   rw [← e1,← e2]
   exact sq_ops (hu i hj).2.1 (hu i hj).2.2
theorem open_scr {r:Reach} {b0:Nat} {v:Value} {d:DataW H} {p:List MemPlace} (hv:Value.okWide Tryz.prog W r b0 27 v) (h:DataW.Trod enc Tryz.prog W 0 (fun _=>true) true 27 v d p) :
  ∃ t c wd vv vo vp vd rs ss ps ds,v = .agg #[.int .i64 t,.int .i64 c,.int .i64 wd,.int .i64 vv,vo,vp,vd]∧Rws W vo rs ss∧Law.Ints W .i64 vp ps∧Sq fI W vp ps∧Law.Ints W .i64 vd ds∧Sq fI W vd ds:=by
 obtain ⟨cs,rfl,hsz⟩:=okWide_struct Tryz.underlying27 hv
 obtain ⟨fuel,hf⟩:=h
 obtain ⟨y0,y1,y2,y3,n,-,hl,h0,h1,h2,h3⟩:=Joins.trod_struct4 Tryz.underlying27 hf
 have e7:Tryz.prog.cellsOf 27=7:=by kernel_rfl
 rw [e7] at hsz
 obtain ⟨l⟩:=cs
 match l,hsz with
 | [x0,x1,x2,x3,x4,x5,x6],_ =>
  have k4:Tryz.prog.cellsOf 23=4:=by kernel_rfl
  have k1:Tryz.prog.cellsOf 24=1:=by kernel_rfl
  have k2:Tryz.prog.cellsOf 25=1:=by kernel_rfl
  have k3:Tryz.prog.cellsOf 3=1:=by kernel_rfl
  simp [Value.cells,k4,k1,k2] at h0 h1 h2 h3
  obtain ⟨z0,z1,z2,z3,m,-,-,q0,q1,q2,q3⟩:=Joins.trod_struct4 Tryz.underlying23 h0
  simp [k3] at q0 q1 q2 q3
  obtain ⟨i0,j0,-,-⟩:=DataW.trod_int Tryz.underlying3 q0
  obtain ⟨i1,j1,-,-⟩:=DataW.trod_int Tryz.underlying3 q1
  obtain ⟨i2,j2,-,-⟩:=DataW.trod_int Tryz.underlying3 q2
  obtain ⟨i3,j3,-,-⟩:=DataW.trod_int Tryz.underlying3 q3
  simp at j0 j1 j2 j3
  subst j0 j1 j2 j3
  obtain ⟨rs,ss,hr⟩:=rows_of_trod h1
  obtain ⟨ps,hp⟩:=ints_of_trod h2
  obtain ⟨ds,hd⟩:=ints_of_trod h3
  exact ⟨i0,i1,i2,i3,x4,x5,x6,rs,ss,ps,ds,rfl,hr,hp,sq_ints hp (fit_ints h2),hd,sq_ints hd (fit_ints h3)⟩
end
end Go.Proofs.YtilipdnchflkhaaGreatDoor.Op10
namespace Go.Proofs.YtilipdnchflkhaaGreatDoor.Mx
open Go.RowKit Go.Proofs.YtilipdnchflkhaaGreatDoor.Ar Go.Proofs.YtilipdnchflkhaaGreatDoor.Ref Go.Proofs.YtilipdnchflkhaaGreatDoor.Og Go.Proofs.YtilipdnchflkhaaGreatDoor.Mp
theorem evI:(Tryz.prog.info? 189).map (fun i=>(i.zero,i.size,i.bytes))=some (some (.agg #[.int .i64 0,.int .i64 0,.int .i64 0,.int .i64 0,.int .i64 0,.int .i64 0,.int .i64 0,.int .i64 0,.int .i64 0,.int .i64 0,.int .i64 0,.int .i64 0,.int .i64 0,.bool false,.int .i64 0,.int .i64 0,.int .i64 0,.slice none 0 0]),18,160):=by kernel_rfl
theorem st4_ob {w:World} {b:Nat} {T:TypeId} {x0 x1 x2 x3:Value} (h:Ob w b T #[x0,x1,x2,x3]) (y0 y1 y2 y3:Value) :
  Ob ((((w.setCell ⟨b,0,none⟩ y0).setCell ⟨b,1,none⟩ y1).setCell ⟨b,2,none⟩ y2).setCell ⟨b,3,none⟩ y3) b T #[y0,y1,y2,y3]:=by
 have:=((((h.set (i:=0) y0).set (i:=1) y1).set (i:=2) y2).set (i:=3) y3)
 rwa [show ((((#[x0,x1,x2,x3]:Array Value).setIfInBounds 0 y0).setIfInBounds 1 y1).setIfInBounds 2 y2).setIfInBounds 3 y3 = #[y0,y1,y2,y3] from rfl] at this
def OpC (o:O):Array Value:=#[.int .i64 o.1,.int .i64 o.2.1,.int .i64 o.2.2.1,.int .i64 o.2.2.2]
theorem op_cells {w:World} {b:Nat} {T:TypeId} {o:O} (h:Ob w b T (OpC o)):w.cell? ⟨b,0,none⟩=some (.int .i64 o.1)∧w.cell? ⟨b,1,none⟩=some (.int .i64 o.2.1)∧w.cell? ⟨b,2,none⟩=some (.int .i64 o.2.2.1)∧w.cell? ⟨b,3,none⟩=some (.int .i64 o.2.2.2):=⟨h.cell rfl,h.cell rfl,h.cell rfl,h.cell rfl⟩
theorem th_cell {w:World} {g:Nat} {T:TypeId} {ts:List Tv} {n j:Nat} {z:Tv} {u:Value} (h:Ob w g T (ts.flatMap fTv).toArray) (hz:ts[n]? = some z) (hj:j<6) (hu:(fTv z)[j]? = some u):w.cell? ⟨g,n * 6+j,none⟩=some u:=by
 refine h.cell ?_
 simp only [List.getElem?_toArray]
 rw [fTv_lays.at hz hj];exact hu
theorem op_row {w:World} {v:Value} {os:List O} (h:Sq fO w v os) {i:Nat} {o:O} (hi:os[i]? = some o):∃ g off cap,v = .slice (some ⟨g,off,none⟩) os.length cap∧w.cell? ⟨g,off+i * 4,none⟩=some (.int .i64 o.1)∧w.cell? ⟨g,off+i * 4+1,none⟩=some (.int .i64 o.2.1)∧w.cell? ⟨g,off+i * 4+2,none⟩=some (.int .i64 o.2.2.1)∧w.cell? ⟨g,off+i * 4+3,none⟩=some (.int .i64 o.2.2.2):=by
 obtain ⟨a,cap,rfl,-,-,-⟩:=id h
 obtain ⟨-,g,off,rfl,hc⟩:=Sq.cell fO_lays h hi
 exact ⟨g,off,cap,rfl,hc 0 _ rfl,hc 1 _ rfl,hc 2 _ rfl,hc 3 _ rfl⟩
def newEv (t i:Int) (o:O) (now:Int):Ev:=⟨t,i,o,now,-1,0,-1,-1,-1,noAns⟩
theorem begins_any {N0:Nat} {own:Nat→Nat} {w:World} {b:Nat} {m:Mc} {y:Lay} {N:Nat} (hI:MInv N m) (hN:N≤900000) (h:McIn N0 own w b m y) (hN0:N0≤w.heap.size) {n:Nat} {x:Th} (hx:m.t[n]? = some x) (hnx:x.next<((m.opsOf (n:Int)).length:Int)) :
  Calls Tryz.prog 103 #[.pointer (some ⟨b,0,none⟩),.int .i64 n] w (McPost N0 w b (m.begins (n:Int)) (.tuple #[])):=by
 have hn:=(List.getElem?_eq_some_iff.1 hx).1
 have hn8:=hI.t8
 obtain ⟨z,hz⟩:∃ z,y.ts[n]? = some z:=⟨y.ts[n]'(by rw [h.thl];exact hn),List.getElem?_eq_getElem _⟩
 obtain ⟨e1,e2,e3⟩:=(h.thr n x z hx hz).choose_spec.1.1
 have ht:=hI.th n x hx
 have hol:=hI.opsl (n:Int)
 replace h:=h.recol 0 hN0
 have hfresh:∀ k,w.heap.size≤k→recol own w.heap.size 0 k=0:=fun k hk=>recol_new hk
 generalize recol own w.heap.size 0=own at *
 obtain ⟨i,hi⟩:∃ i:Nat,x.next=(i:Int):=⟨x.next.toNat,by have:=ht.n0;omega⟩
 have hil:i<(m.opsOf (n:Int)).length:=by omega
 obtain ⟨o,ho⟩:∃ o,(m.opsOf (n:Int))[i]? = some o:=⟨_,List.getElem?_eq_getElem hil⟩
 have hE:m.begins (n:Int) = { m with t:=m.t.set n (m.begun (n:Int)),e:=m.e++[newEv n i o m.now] }:=by
  unfold Mc.begins newEv
  have e:m.th (n:Int)=x:=by unfold Mc.th;rw [Int.toNat_natCast,List.getD_eq_getElem?_getD,hx];rfl
  simp only [e,hi,Int.toNat_natCast,List.getD_eq_getElem?_getD,ho,Option.getD_some]
 have hB:m.begun (n:Int)=(if o.1=1 then ⟨(i:Int)+1,true,x.scans,some (Pt.new m.c o.2.1 (dataW (writerP n i) o.2.2.1) (m.drawsOf (writerP n i))),none,none⟩
   else if o.1=2 then ⟨(i:Int)+1,true,x.scans,some (Pt.new m.c o.2.1 (dataW (writerP n i) (-1)) (m.drawsOf (writerP n i))),none,none⟩
   else if o.1=3 then ⟨(i:Int)+1,true,x.scans,none,some (Gt.new m.c o.2.1),none⟩
   else ⟨(i:Int)+1,true,x.scans+1,none,none,some (Sn.new m.c n (x.scans+1) o.2.1 o.2.2.2)⟩):=by
  unfold Mc.begun
  have e:m.th (n:Int)=x:=by unfold Mc.th;rw [Int.toNat_natCast,List.getD_eq_getElem?_getD,hx];rfl
  simp only [e,hi,Int.toNat_natCast,List.getD_eq_getElem?_getD,ho,Option.getD_some]
 rw [hE]
 have HB:=Lib.hid hB
 clear hE hB
 generalize m.begun (n:Int)=X at *
 have hi1:i<1000:=by omega
 obtain ⟨go,oo,co,hov,d0,d1,d2,d3⟩:=op_row (opsV_sq h.fz.rows (n:Int)) ho
 have HOV:=Lib.hid hov
 have HOL:=Lib.hid (And.intro hol (And.intro hil hnx))
 have t0:=th_cell h.th hz (j:=0) (by decide) rfl
 rw [e1,hi] at t0
 obtain ⟨-,-,-,-,-,-,-,-,c8,-,-,-,-⟩:=mc_cells h.ob
 unfold Lay.tv at c8
 have hlz:(n:Int)<(y.ts.length:Int):=by rw [h.thl];omega
 have HX:=Lib.hid (And.intro hx (And.intro hz (And.intro hi (And.intro e1 (And.intro e2 e3)))))
 have HTL:=Lib.hid (And.intro hn (And.intro hn8 ht))
 have HI:=Lib.hid hI
 have hilz:(i:Int)<((m.opsOf (n:Int)).length:Int):=by omega
 clear hx hz hi e1 e2 e3 hn ht hI hov hol hil hnx ho
 have H:=Lib.hid h
 clear h
 generalize (m.opsOf (n:Int)).length=len at *
 have HT0:=Lib.hid t0
 rw [Nat.add_zero] at t0
 go_enter Tryz.func103,Tryz.ntmps103
 go_wp2_with fail
 refine wp_region_env (by kernel_rfl) [] (fun w2 F2=>?_)
 refine ep [true,true,true,true,true,true,true,true,true,false,false] 2 F2 ?_
 apply Exists.intro
 refine ⟨fun wf Ff=>?_,?_⟩
 ·have HU:=Lib.hid (H.out.up Ff)
  have k0:=In.cell (Ff.cell t0 (by simp))
  have q0:=In.cell (Ff.cell d0 (by simp))
  have q1:=In.cell (Ff.cell d1 (by simp))
  have q2:=In.cell (Ff.cell d2 (by simp))
  have q3:=In.cell (Ff.cell d3 (by simp))
  simp only [sel]
  repeat (go_big_quiet_step ((go_at_call 124;exact Calls.in_same ((ops_any m _ b y.ov y.pv y.dv y.p y.tv y.kv y.ev y.R y.ss _ (HU.out.up (In.fr _)).ob (HU.out.up (In.fr _)).fz.rows).mono (fun e w' hh=>⟨hh.1.trans (by rw [HOV.out]),hh.2.symm⟩)))))
  exact wpQuiet_nil rfl
 refine eo 9 (fun w3 F3=>?_)
 replace F2:=F2.trans F3
 clear F3
 go_wp2_with fail
 have FA:=(Fr.refl [] w3).alloc (.cells #[.int .i64 0,.int .i64 0,.int .i64 0,.int .i64 0] 162)
 have oA:Ob _ w3.heap.size 162 #[.int .i64 0,.int .i64 0,.int .i64 0,.int .i64 0]:=Ob.new w3 _ _
 have hob:w.heap.size≤w3.heap.size:=F2.size
 refine nx_normal ⟨F2.trans FA,?_⟩
 refine eo 10 (fun w4 F4=>?_)
 replace F2:=(F2.trans FA).trans F4
 replace oA:=Ob.up oA F4
 clear FA F4
 generalize w3.heap.size=ob at *
 have z:=oA.frozen
 have q0:w4.cell? ⟨ob,0,none⟩=some (.int .i64 0):=oA.cell rfl
 have q1:w4.cell? ⟨ob,1,none⟩=some (.int .i64 0):=oA.cell rfl
 have q2:w4.cell? ⟨ob,2,none⟩=some (.int .i64 0):=oA.cell rfl
 have q3:w4.cell? ⟨ob,3,none⟩=some (.int .i64 0):=oA.cell rfl
 go_wp2_with fail
 clear q0 q1 q2 q3
 have o5:Ob _ ob 162 (OpC o):=st4_ob oA (.int .i64 o.1) (.int .i64 o.2.1) (.int .i64 o.2.2.1) (.int .i64 o.2.2.2)
 have F5:Fr [] w ((((w4.setCell ⟨ob,0,none⟩ (.int .i64 o.1)).setCell ⟨ob,1,none⟩ (.int .i64 o.2.1)).setCell ⟨ob,2,none⟩ (.int .i64 o.2.2.1)).setCell ⟨ob,3,none⟩ (.int .i64 o.2.2.2)):=F2.own ((((Fr.setCell (S:=[ob]) _ (by simp)).setCell' _ (by simp)).setCell' _ (by simp)).setCell' _ (by simp)) (by simpa using hob)
 clear F2 z oA
 generalize ((((w4.setCell ⟨ob,0,none⟩ (.int .i64 o.1)).setCell ⟨ob,1,none⟩ (.int .i64 o.2.1)).setCell ⟨ob,2,none⟩ (.int .i64 o.2.2.1)).setCell ⟨ob,3,none⟩ (.int .i64 o.2.2.2))=w5 at *
 refine nx_normal ⟨F5,?_⟩
 refine env_done (by kernel_rfl) (fun w6 F6=>?_)
 replace F5:=F5.trans F6
 replace o5:=Ob.up o5 F6
 have H6:=Lib.hid (H.out.up F5)
 have HS:=Lib.hid (And.intro F5 hob)
 clear H F6 d0 d1 d2 d3 c8 t0 HT0
 have t0:=th_cell H6.out.th HX.out.2.1 (j:=0) (by decide) rfl
 rw [Nat.add_zero,HX.out.2.2.2.1,HX.out.2.2.1] at t0
 go_wp2_with fail
 refine (writer_any _ _ _).mono ?_;rintro e w7 ⟨rfl,rfl⟩
 go_wp2_with fail
 obtain ⟨ae,ce,hev,hce,hme,-⟩:=id (Sq.own (f:=fEv) H6.out.ev)
 have hes:y.es.length≤N:=by rw [H6.out.esl];exact HI.out.el
 obtain ⟨-,-,-,-,-,-,-,-,-,c9,-,-,c12⟩:=mc_cells H6.out.ob
 rw [hev] at c12
 obtain ⟨q0,q1,q2,q3⟩:=op_cells o5
 have r6:=H6.out.ev
 rw [hev] at r6
 have hevo:=H6.out.evo
 rw [hev] at hevo
 have nb:b∉(Value.slice ae y.es.length ce).ownBlock.toList:=fun hi=>by have:=hevo b hi;have:=H6.out.cb;omega
 have ntb:y.tb∉(Value.slice ae y.es.length ce).ownBlock.toList:=fun hi=>by have:=hevo _ hi;have:=H6.out.ct;omega
 have nob:ob∉(Value.slice ae y.es.length ce).ownBlock.toList:=fun hi=>by have:=hevo _ hi;have:=hfresh ob HS.out.2;omega
 have HEV:=Lib.hid hev
 clear hev hevo
 refine wp_region_free (by kernel_rfl) ?_
 refine any_envL (Value.slice ae y.es.length ce).ownBlock.toList w6 #[true,true,true,true,true,true,true,true,true,true,true,true,true,true,true,true,true,true,false,false,false] 18 3 rfl ?_
 refine lp [true,true,true,true,true,true,true,true,true,true,true,true,true,true,true,true,false,false,false,false,false] 2 ((Fr.refl _ _).drew) ?_
 apply Exists.intro
 refine ⟨fun wf Ff=>?_,?_⟩
 ·have k9:=In.cell (Ff.cell c9 nb)
  have k12:=In.cell (Ff.cell c12 nb)
  have k0:=In.cell (Ff.cell t0 ntb)
  have p0:=In.cell (Ff.cell q0 nob)
  have p1:=In.cell (Ff.cell q1 nob)
  have p2:=In.cell (Ff.cell q2 nob)
  have p3:=In.cell (Ff.cell q3 nob)
  simp only [sel]
  repeat (go_big_quiet_step (fail))
  exact wpQuiet_nil rfl
 refine lo 16 (fun w10 F10=>?_)
 have G:=((Fr.refl (Value.slice ae y.es.length ce).ownBlock.toList w6).drew).then F10
 have r10:=row_keeps r6 ((Fr.refl [] w6).drew.trans F10)
 clear F10 r6
 go_wp2_with fail
 have F12:=(Fr.refl [] w10).alloc (.cells #[.int .i64 n,.int .i64 i,.int .i64 o.1,.int .i64 o.2.1,.int .i64 o.2.2.1,.int .i64 o.2.2.2,.int .i64 m.now,.int .i64 (-1),.int .i64 0,.int .i64 (-1),.int .i64 (-1),.int .i64 (-1),.int .i64 0,.bool false,.int .i64 0,.int .i64 0,.int .i64 0,.slice none 0 0] 189)
 have B12:=Go.heap_alloc_new w10 (.cells #[.int .i64 n,.int .i64 i,.int .i64 o.1,.int .i64 o.2.1,.int .i64 o.2.2.1,.int .i64 o.2.2.2,.int .i64 m.now,.int .i64 (-1),.int .i64 0,.int .i64 (-1),.int .i64 (-1),.int .i64 (-1),.int .i64 0,.bool false,.int .i64 0,.int .i64 0,.int .i64 0,.slice none 0 0] 189)
 have r12:=row_keeps r10 F12
 replace G:=G.then F12
 clear r10 F12
 refine nx_normal ⟨G,?_⟩
 refine lo 17 (fun w13 F13=>?_)
 have r22:=row_keeps r12 F13
 have B22:=F13.heap B12 (by simp)
 replace G:=G.then F13
 have HGG:=Lib.hid G.size
 clear r12 B12 F13
 go_wp2_with (at_builtin;go_loud (refine wpList_appSqB fEv_lays rfl _ _ 98 rfl Tryz.underlying98 evI rfl (B:=N0) (.slice ae y.es.length ce) y.es rfl r22 _ [(⟨newEv n i o m.now,⟨none,0,0⟩⟩:Evv)] rfl (Sq.block B22 rfl rfl (Nat.le_refl _) (by simp [maxLen])) (by simp <;> omega) (by decide) (Nat.le_trans hN0 (Nat.le_trans HS.out.1.size G.size)) ?_);intro a23 c23 w23 r23 f23 n23)
 replace G:=G.trans f23
 have hs6:=HS.out.1.size
 have hg6:w6.heap.size≤w13.heap.size:=HGG.out
 refine nx_normal ⟨G,?_⟩
 refine envL_tail (k:=18) rfl (by kernel_rfl) (fun w15 F15=>?_)
 have r15:=row_keeps r23 F15
 replace G:=G.then F15
 have A:=H6.out.appE (Nat.le_trans hN0 hs6) (w1:=w15) (x:=⟨newEv n i o m.now,⟨none,0,0⟩⟩) (by rw [HEV.out];exact G) r15 (by rw [HEV.out];exact fun g hg=>(n23 g hg).imp id (fun e=>by omega)) ⟨rfl,rfl⟩
 have hb0:recol own w6.heap.size 5 ob=0:=(recol_old (Ob.lt o5)).trans (hfresh ob hob)
 generalize recol own w6.heap.size 5=own2 at *
 have Fv:=A.1.five HX.out.1 HX.out.2.1
 dsimp only at Fv
 rw [HX.out.2.2.1] at Fv
 have th15:=Ob.kept H6.out.th G ntb
 have ob15:=Ob.kept H6.out.ob G nb
 have zb:=ob15.frozen
 have zt:=th15.frozen
 replace c12:=G.cell c12 nb
 have t0:=th_cell th15 HX.out.2.1 (j:=0) (by decide) rfl
 rw [Nat.add_zero,HX.out.2.2.2.1,HX.out.2.2.1] at t0
 have t1:=th_cell th15 HX.out.2.1 (j:=1) (by decide) rfl
 have t2:=th_cell th15 HX.out.2.1 (j:=2) (by decide) rfl
 rw [HX.out.2.2.2.2.2] at t2
 have t3:=th_cell th15 HX.out.2.1 (j:=3) (by decide) rfl
 have t4:=th_cell th15 HX.out.2.1 (j:=4) (by decide) rfl
 have t5:=th_cell th15 HX.out.2.1 (j:=5) (by decide) rfl
 replace q0:=G.cell q0 nob
 have nbt:¬ b=y.tb:=fun e=>by have h1:=H6.out.cb;have h2:=H6.out.ct;rw [← e] at h2;omega
 have nbo:¬ b=ob:=fun e=>by have h1:=H6.out.cb;have h2:=hfresh ob hob;rw [← e] at h2;omega
 have nto:¬ y.tb=ob:=fun e=>by have h1:=H6.out.ct;have h2:=hfresh ob hob;rw [← e] at h2;omega
 have nbt':¬ y.tb=b:=fun e=>nbt e.symm
 have nbo':¬ ob=b:=fun e=>nbo e.symm
 have nto':¬ ob=y.tb:=fun e=>nto e.symm
 have hoo:Ob w15 ob 162 (OpC o):=Ob.kept o5 G nob
 generalize hL2:y.es++[(⟨newEv n i o m.now,⟨none,0,0⟩⟩:Evv)]=es2 at *
 have hl2:es2.length=y.es.length+1:=by rw [← hL2];simp
 rw [hl2] at A Fv
 have HA:=Lib.hid (And.intro A (And.intro Fv (And.intro hb0 hoo)))
 have HG:=Lib.hid G
 clear hl2 A Fv hb0 hoo G F15 r15 r23 n23 f23 B22 r22 c9 q1 q2 q3 nb ntb nob hL2 F5 o5 hce hme ob15 th15 hg6 hs6 hes hob
 by_cases k1:o.1=1
 ·have g1:(o.1 == 1)=true:=by simpa using k1
  have HX1:=Lib.hid (HB.out.trans (if_pos k1))
  clear k1 HB
  go_wp2_with fail
  obtain ⟨⟨A1,A2⟩,⟨B1,B2⟩,hb0,hoo⟩:=HA.out
  have hb5:Ob _ ob 162 (OpC o):=Ob.kept (Ob.other hoo nbo' (i:=12) (Value.slice a23 (y.es.length+1) c23)) B2 (by simpa using nto')
  have FW:=(FrO.of HS.out.1 (by simp)).trans ((FrO.of (S:=[]) (Fr.refl _ w6) (by simp)).trans (A2.trans (FrO.of B2 (fun k hk=>by simp at hk;subst hk;exact B1.base _ (by rw [show own2 y.tb=4 from B1.ct];decide)))))
  clear A1 A2 hoo B2
  clear t0 t1 t2 t3 t4 t5 c12 q0 zb zt
  generalize ((((((w15.setCell ⟨b,12,none⟩ (Value.slice a23 (y.es.length+1) c23)).setCell ⟨y.tb,n * 6+1,none⟩ (.bool true)).setCell ⟨y.tb,n * 6,none⟩ (.int .i64 (↑i+1))).setCell ⟨y.tb,n * 6+3,none⟩ (.pointer none)).setCell ⟨y.tb,n * 6+4,none⟩ (.pointer none)).setCell ⟨y.tb,n * 6+5,none⟩ (.pointer none))=w16 at *
  clear HA HG
  have HB1:=Lib.hid B1
  have HFW:=Lib.hid FW
  clear FW
  obtain ⟨c0,c1,c2,c3,-,-,-,-,-,-,-,-,-⟩:=mc_cells B1.ob
  dsimp only at c0 c1 c2 c3
  have th16:=B1.th
  dsimp only at th16
  have hz5:(y.ts.set n ⟨(i:Int)+1,true,x.scans,none,none,none⟩)[n]? = some ⟨(i:Int)+1,true,x.scans,none,none,none⟩:=List.getElem?_set_self (by have:=(List.getElem?_eq_some_iff.1 HX.out.2.1).1;exact this)
  have hct:own2 y.tb=4:=B1.ct
  clear B1
  obtain ⟨q0,q1,q2,q3⟩:=op_cells hb5
  refine wp_region_free (by kernel_rfl) ?_
  refine any_envL [] w16 #[true,true,true,true,true,true,true,true,true,true,true,true,true,true,true,true,false,false,false] 16 3 rfl ?_
  refine lp [true,true,true,true,true,true,true,true,true,true,true,true,true,true,false,false,false,false,false] 2 ((Fr.refl _ _).drew) ?_
  apply Exists.intro
  refine ⟨fun wf Ff=>?_,?_⟩
  ·have k0:=In.cell (Ff.cell c0 (by simp))
   have k1:=In.cell (Ff.cell c1 (by simp))
   have k2:=In.cell (Ff.cell c2 (by simp))
   have k3:=In.cell (Ff.cell c3 (by simp))
   have p0:=In.cell (Ff.cell q0 (by simp))
   have p1:=In.cell (Ff.cell q1 (by simp))
   have p2:=In.cell (Ff.cell q2 (by simp))
   have p3:=In.cell (Ff.cell q3 (by simp))
   simp only [sel]
   repeat (go_big_quiet_step ((go_at_call 140;exact Calls.in_same (data_any _ _ _))))
   exact wpQuiet_nil rfl
  refine lo 14 (fun w17 F17=>?_)
  have E:=((Fr.refl [] w16).drew).trans F17
  clear F17
  have U17:=HB1.out.up E
  go_wp2_with fail
  refine (draws_any _ (writerP n i) (by unfold writerP;have:=HTL.out.1;have:=HTL.out.2.1;split <;> omega) b _ _ _ _ _ _ _ w17 U17.ob U17.fz.dr).mono ?_;rintro e w18 ⟨⟨dvv,rfl,hdr⟩,F18⟩
  have HDR:=Lib.hid (show Sq fI w18 dvv (m.drawsOf (writerP n i)) from hdr.1.up F18)
  have HDO:=Lib.hid (fun k hk=>HB1.out.fz.drR (hdr.2 k hk).1 k (hdr.2 k hk).2)
  replace E:=E.trans F18
  clear F18 hdr U17
  go_wp2_with fail
  refine nx_normal ⟨E,?_⟩
  refine lo 15 (fun w19 F19=>?_)
  replace E:=E.trans F19
  go_wp2_with fail
  refine (newPut_any m.c o.2.1 (dataW (writerP n i) o.2.2.1) (m.drawsOf (writerP n i)) dvv y.R w19 (HDR.out.up F19) HDO.out (fun k hk=>Nat.lt_of_lt_of_le (HB1.out.fz.cR k hk).2 E.size)).mono ?_;rintro e w20 ⟨pb,B,rfl,hP,hBn,F20⟩
  clear F19 HDR HDO
  have HBN:=Lib.hid (fun k hk=>Nat.le_trans E.size (hBn k hk))
  replace E:=E.trans F20
  have HP:=Lib.hid hP
  clear F20 hP hBn c0 c1 c2 c3 q0 q1 q2 q3
  go_wp2_with fail
  refine nx_normal ⟨E,?_⟩
  refine envL_tail (k:=16) rfl (by kernel_rfl) (fun w21 F21=>?_)
  replace E:=E.trans F21
  have hP:=HP.out.kept F21 (by simp) (by simp)
  have th21:=Ob.up th16 E
  have zt:=th21.frozen
  have t3:=th_cell th21 hz5 (j:=3) (by decide) rfl
  have M:=(HB1.out.recol (n+6) (Nat.le_trans hN0 HFW.out.size)).up E
  have hBc:∀ k,k∈B→recol own2 w16.heap.size (n+6) k=n+6:=fun k hk=>recol_new (HBN.out k hk)
  generalize recol own2 w16.heap.size (n+6)=own3 at *
  clear HP F21
  have HM:=Lib.hid (And.intro M (And.intro hBc hP))
  have HE:=Lib.hid E
  clear M hBc hP E
  go_wp2_with fail
  go_end0
  obtain ⟨M,hBc,hP⟩:=HM.out
  have hct3:own3 y.tb=4:=M.ct
  obtain ⟨C1,C2⟩:=M.setT2 (m:={ m with e:=m.e++[newEv n i o m.now] }) (y:={ y with ev:=(Value.slice a23 (y.es.length+1) c23),es:=es2 }) HTL.out.1 (j:=3) (u:=.pointer (some ⟨pb,0,none⟩)) (x':=⟨(i:Int)+1,true,x.scans,some (Pt.new m.c o.2.1 (dataW (writerP n i) o.2.2.1) (m.drawsOf (writerP n i))),none,none⟩) (z':=⟨(i:Int)+1,true,x.scans,some pb,none,none⟩) (by decide) (by simp [fTv,ptrV]) (fun w' F=>⟨B,⟨⟨rfl,rfl,rfl⟩,.inl ⟨_,pb,rfl,rfl,rfl,rfl,rfl,rfl,hP.kept F (fun k hk hi=>by simp at hi;subst hi;have:=hBc _ hk;omega) (fun k hk hi=>by simp at hi;subst hi;have:=M.R0 _ hk;omega)⟩⟩,hBc⟩)
  dsimp only at C1 C2
  rw [← HX1.out] at C1
  exact ⟨rfl,⟨own3,_,C1⟩,HFW.out.trans ((FrO.of HE.out (by simp)).trans C2)⟩
 have HB2:=Lib.hid (HB.out.trans (if_neg k1))
 have g1:(o.1 == 1)=false:=by simpa using k1
 clear HB k1
 by_cases k2:o.1=2
 ·have g2:(o.1 == 2)=true:=by simpa using k2
  have HX1:=Lib.hid (HB2.out.trans (if_pos k2))
  clear k2 HB2
  go_wp2_with fail
  obtain ⟨⟨A1,A2⟩,⟨B1,B2⟩,hb0,hoo⟩:=HA.out
  have hb5:Ob _ ob 162 (OpC o):=Ob.kept (Ob.other hoo nbo' (i:=12) (Value.slice a23 (y.es.length+1) c23)) B2 (by simpa using nto')
  have FW:=(FrO.of HS.out.1 (by simp)).trans ((FrO.of (S:=[]) (Fr.refl _ w6) (by simp)).trans (A2.trans (FrO.of B2 (fun k hk=>by simp at hk;subst hk;exact B1.base _ (by rw [show own2 y.tb=4 from B1.ct];decide)))))
  clear A1 A2 hoo B2
  clear t0 t1 t2 t3 t4 t5 c12 q0 zb zt
  generalize ((((((w15.setCell ⟨b,12,none⟩ (Value.slice a23 (y.es.length+1) c23)).setCell ⟨y.tb,n * 6+1,none⟩ (.bool true)).setCell ⟨y.tb,n * 6,none⟩ (.int .i64 (↑i+1))).setCell ⟨y.tb,n * 6+3,none⟩ (.pointer none)).setCell ⟨y.tb,n * 6+4,none⟩ (.pointer none)).setCell ⟨y.tb,n * 6+5,none⟩ (.pointer none))=w16 at *
  clear HA HG
  have HB1:=Lib.hid B1
  have HFW:=Lib.hid FW
  clear FW
  obtain ⟨c0,c1,c2,c3,-,-,-,-,-,-,-,-,-⟩:=mc_cells B1.ob
  dsimp only at c0 c1 c2 c3
  have th16:=B1.th
  dsimp only at th16
  have hz5:(y.ts.set n ⟨(i:Int)+1,true,x.scans,none,none,none⟩)[n]? = some ⟨(i:Int)+1,true,x.scans,none,none,none⟩:=List.getElem?_set_self (by have:=(List.getElem?_eq_some_iff.1 HX.out.2.1).1;exact this)
  have hct:own2 y.tb=4:=B1.ct
  clear B1
  obtain ⟨q0,q1,q2,q3⟩:=op_cells hb5
  refine wp_region_free (by kernel_rfl) ?_
  refine any_envL [] w16 #[true,true,true,true,true,true,true,true,true,true,true,true,true,true,false,false,false] 14 3 rfl ?_
  refine lp [true,true,true,true,true,true,true,true,true,true,true,true,false,false,false,false,false] 2 ((Fr.refl _ _).drew) ?_
  apply Exists.intro
  refine ⟨fun wf Ff=>?_,?_⟩
  ·have k0:=In.cell (Ff.cell c0 (by simp))
   have k1:=In.cell (Ff.cell c1 (by simp))
   have k2:=In.cell (Ff.cell c2 (by simp))
   have k3:=In.cell (Ff.cell c3 (by simp))
   have p0:=In.cell (Ff.cell q0 (by simp))
   have p1:=In.cell (Ff.cell q1 (by simp))
   have p2:=In.cell (Ff.cell q2 (by simp))
   have p3:=In.cell (Ff.cell q3 (by simp))
   simp only [sel]
   repeat (go_big_quiet_step ((go_at_call 140;exact Calls.in_same (data_any _ _ _))))
   exact wpQuiet_nil rfl
  refine lo 12 (fun w17 F17=>?_)
  have E:=((Fr.refl [] w16).drew).trans F17
  clear F17
  have U17:=HB1.out.up E
  go_wp2_with fail
  refine (draws_any _ (writerP n i) (by unfold writerP;have:=HTL.out.1;have:=HTL.out.2.1;split <;> omega) b _ _ _ _ _ _ _ w17 U17.ob U17.fz.dr).mono ?_;rintro e w18 ⟨⟨dvv,rfl,hdr⟩,F18⟩
  have HDR:=Lib.hid (show Sq fI w18 dvv (m.drawsOf (writerP n i)) from hdr.1.up F18)
  have HDO:=Lib.hid (fun k hk=>HB1.out.fz.drR (hdr.2 k hk).1 k (hdr.2 k hk).2)
  replace E:=E.trans F18
  clear F18 hdr U17
  go_wp2_with fail
  refine nx_normal ⟨E,?_⟩
  refine lo 13 (fun w19 F19=>?_)
  replace E:=E.trans F19
  go_wp2_with fail
  refine (newPut_any m.c o.2.1 (dataW (writerP n i) (-1)) (m.drawsOf (writerP n i)) dvv y.R w19 (HDR.out.up F19) HDO.out (fun k hk=>Nat.lt_of_lt_of_le (HB1.out.fz.cR k hk).2 E.size)).mono ?_;rintro e w20 ⟨pb,B,rfl,hP,hBn,F20⟩
  clear F19 HDR HDO
  have HBN:=Lib.hid (fun k hk=>Nat.le_trans E.size (hBn k hk))
  replace E:=E.trans F20
  have HP:=Lib.hid hP
  clear F20 hP hBn c0 c1 c2 c3 q0 q1 q2 q3
  go_wp2_with fail
  refine nx_normal ⟨E,?_⟩
  refine envL_tail (k:=14) rfl (by kernel_rfl) (fun w21 F21=>?_)
  replace E:=E.trans F21
  have hP:=HP.out.kept F21 (by simp) (by simp)
  have th21:=Ob.up th16 E
  have zt:=th21.frozen
  have t3:=th_cell th21 hz5 (j:=3) (by decide) rfl
  have M:=(HB1.out.recol (n+6) (Nat.le_trans hN0 HFW.out.size)).up E
  have hBc:∀ k,k∈B→recol own2 w16.heap.size (n+6) k=n+6:=fun k hk=>recol_new (HBN.out k hk)
  generalize recol own2 w16.heap.size (n+6)=own3 at *
  clear HP F21
  have HM:=Lib.hid (And.intro M (And.intro hBc hP))
  have HE:=Lib.hid E
  clear M hBc hP E
  go_wp2_with fail
  go_end0
  obtain ⟨M,hBc,hP⟩:=HM.out
  have hct3:own3 y.tb=4:=M.ct
  obtain ⟨C1,C2⟩:=M.setT2 (m:={ m with e:=m.e++[newEv n i o m.now] }) (y:={ y with ev:=(Value.slice a23 (y.es.length+1) c23),es:=es2 }) HTL.out.1 (j:=3) (u:=.pointer (some ⟨pb,0,none⟩)) (x':=⟨(i:Int)+1,true,x.scans,some (Pt.new m.c o.2.1 (dataW (writerP n i) (-1)) (m.drawsOf (writerP n i))),none,none⟩) (z':=⟨(i:Int)+1,true,x.scans,some pb,none,none⟩) (by decide) (by simp [fTv,ptrV]) (fun w' F=>⟨B,⟨⟨rfl,rfl,rfl⟩,.inl ⟨_,pb,rfl,rfl,rfl,rfl,rfl,rfl,hP.kept F (fun k hk hi=>by simp at hi;subst hi;have:=hBc _ hk;omega) (fun k hk hi=>by simp at hi;subst hi;have:=M.R0 _ hk;omega)⟩⟩,hBc⟩)
  dsimp only at C1 C2
  rw [← HX1.out] at C1
  exact ⟨rfl,⟨own3,_,C1⟩,HFW.out.trans ((FrO.of HE.out (by simp)).trans C2)⟩
 have HB3:=Lib.hid (HB2.out.trans (if_neg k2))
 have g2:(o.1 == 2)=false:=by simpa using k2
 clear HB2 k2
 by_cases k3:o.1=3
 ·have g3:(o.1 == 3)=true:=by simpa using k3
  have HX1:=Lib.hid (HB3.out.trans (if_pos k3))
  clear k3 HB3
  go_wp2_with fail
  obtain ⟨⟨A1,A2⟩,⟨B1,B2⟩,hb0,hoo⟩:=HA.out
  have hb5:Ob _ ob 162 (OpC o):=Ob.kept (Ob.other hoo nbo' (i:=12) (Value.slice a23 (y.es.length+1) c23)) B2 (by simpa using nto')
  have FW:=(FrO.of HS.out.1 (by simp)).trans ((FrO.of (S:=[]) (Fr.refl _ w6) (by simp)).trans (A2.trans (FrO.of B2 (fun k hk=>by simp at hk;subst hk;exact B1.base _ (by rw [show own2 y.tb=4 from B1.ct];decide)))))
  clear A1 A2 hoo B2
  clear t0 t1 t2 t3 t4 t5 c12 q0 zb zt
  generalize ((((((w15.setCell ⟨b,12,none⟩ (Value.slice a23 (y.es.length+1) c23)).setCell ⟨y.tb,n * 6+1,none⟩ (.bool true)).setCell ⟨y.tb,n * 6,none⟩ (.int .i64 (↑i+1))).setCell ⟨y.tb,n * 6+3,none⟩ (.pointer none)).setCell ⟨y.tb,n * 6+4,none⟩ (.pointer none)).setCell ⟨y.tb,n * 6+5,none⟩ (.pointer none))=w16 at *
  clear HA HG
  have HB1:=Lib.hid B1
  have HFW:=Lib.hid FW
  clear FW
  obtain ⟨c0,c1,c2,c3,-,-,-,-,-,-,-,-,-⟩:=mc_cells B1.ob
  dsimp only at c0 c1 c2 c3
  have th16:=B1.th
  dsimp only at th16
  have hz5:(y.ts.set n ⟨(i:Int)+1,true,x.scans,none,none,none⟩)[n]? = some ⟨(i:Int)+1,true,x.scans,none,none,none⟩:=List.getElem?_set_self (by have:=(List.getElem?_eq_some_iff.1 HX.out.2.1).1;exact this)
  have hct:own2 y.tb=4:=B1.ct
  clear B1
  obtain ⟨q0,q1,q2,q3⟩:=op_cells hb5
  refine wp_region_free (by kernel_rfl) ?_
  refine any_envL [] w16 #[true,true,true,true,true,true,true,true,true,false,false,false] 9 3 rfl ?_
  refine lp [true,true,true,true,true,true,true,true,false,false,false,false] 1 ((Fr.refl _ _).drew) ?_
  apply Exists.intro
  refine ⟨fun wf Ff=>?_,?_⟩
  ·have k0:=In.cell (Ff.cell c0 (by simp))
   have k1:=In.cell (Ff.cell c1 (by simp))
   have k2:=In.cell (Ff.cell c2 (by simp))
   have k3:=In.cell (Ff.cell c3 (by simp))
   have p0:=In.cell (Ff.cell q0 (by simp))
   have p1:=In.cell (Ff.cell q1 (by simp))
   have p2:=In.cell (Ff.cell q2 (by simp))
   have p3:=In.cell (Ff.cell q3 (by simp))
   simp only [sel]
   repeat (go_big_quiet_step (fail))
   exact wpQuiet_nil rfl
  refine lo 8 (fun w19 F19=>?_)
  have E:=((Fr.refl [] w16).drew).trans F19
  clear F19
  go_wp2_with fail
  refine (newGet_any m.c o.2.1 w19).mono ?_;rintro e w20 ⟨pb,B,rfl,hP,hBn,F20⟩
  have HBN:=Lib.hid (fun k hk=>Nat.le_trans E.size (hBn k hk))
  replace E:=E.trans F20
  have HP:=Lib.hid hP
  clear F20 hP hBn c0 c1 c2 c3 q0 q1 q2 q3
  go_wp2_with fail
  refine nx_normal ⟨E,?_⟩
  refine envL_tail (k:=9) rfl (by kernel_rfl) (fun w21 F21=>?_)
  replace E:=E.trans F21
  have hP:=HP.out.kept F21 (by simp)
  have th21:=Ob.up th16 E
  have zt:=th21.frozen
  have t4:=th_cell th21 hz5 (j:=4) (by decide) rfl
  have M:=(HB1.out.recol (n+6) (Nat.le_trans hN0 HFW.out.size)).up E
  have hBc:∀ k,k∈B→recol own2 w16.heap.size (n+6) k=n+6:=fun k hk=>recol_new (HBN.out k hk)
  generalize recol own2 w16.heap.size (n+6)=own3 at *
  clear HP F21
  have HM:=Lib.hid (And.intro M (And.intro hBc hP))
  have HE:=Lib.hid E
  clear M hBc hP E
  go_wp2_with fail
  go_end0
  obtain ⟨M,hBc,hP⟩:=HM.out
  have hct3:own3 y.tb=4:=M.ct
  obtain ⟨C1,C2⟩:=M.setT2 (m:={ m with e:=m.e++[newEv n i o m.now] }) (y:={ y with ev:=(Value.slice a23 (y.es.length+1) c23),es:=es2 }) HTL.out.1 (j:=4) (u:=.pointer (some ⟨pb,0,none⟩)) (x':=⟨(i:Int)+1,true,x.scans,none,some (Gt.new m.c o.2.1),none⟩) (z':=⟨(i:Int)+1,true,x.scans,none,some pb,none⟩) (by decide) (by simp [fTv,ptrV]) (fun w' F=>⟨B,⟨⟨rfl,rfl,rfl⟩,.inr (.inl ⟨_,pb,rfl,rfl,rfl,rfl,rfl,rfl,hP.kept F (fun k hk hi=>by simp at hi;subst hi;have:=hBc _ hk;omega)⟩)⟩,hBc⟩)
  dsimp only at C1 C2
  rw [← HX1.out] at C1
  exact ⟨rfl,⟨own3,_,C1⟩,HFW.out.trans ((FrO.of HE.out (by simp)).trans C2)⟩
 have HX1:=Lib.hid (HB3.out.trans (if_neg k3))
 have g3:(o.1 == 3)=false:=by simpa using k3
 have hscb:=HTL.out.2.2.s0
 have hscn:=HTL.out.2.2.n1
 have hsl:=HOL.out.1
 clear HB3 k3
 go_wp2_with fail
 obtain ⟨⟨A1,A2⟩,⟨B1,B2⟩,hb0,hoo⟩:=HA.out
 have hb5:Ob _ ob 162 (OpC o):=Ob.kept (Ob.other hoo nbo' (i:=12) (Value.slice a23 (y.es.length+1) c23)) B2 (by simpa using nto')
 have FW:=(FrO.of HS.out.1 (by simp)).trans ((FrO.of (S:=[]) (Fr.refl _ w6) (by simp)).trans (A2.trans (FrO.of B2 (fun k hk=>by simp at hk;subst hk;exact B1.base _ (by rw [show own2 y.tb=4 from B1.ct];decide)))))
 obtain ⟨B1',B2'⟩:=B1.setT2 (m:={ m with e:=m.e++[newEv n i o m.now] }) (y:={ y with ev:=(Value.slice a23 (y.es.length+1) c23),es:=es2 }) HTL.out.1 (j:=2) (u:=.int .i64 (x.scans+1)) (x':=⟨(i:Int)+1,true,x.scans+1,none,none,none⟩) (z':=⟨(i:Int)+1,true,x.scans+1,none,none,none⟩) (by decide) (by simp [fTv]) (fun w' F=>by obtain ⟨B,k1,k2⟩:=B1.thK2 (m:={ m with e:=m.e++[newEv n i o m.now] }) (y:={ y with ev:=(Value.slice a23 (y.es.length+1) c23),es:=es2 }) HTL.out.1 w' F;exact ⟨B,k1.num _ _ _,k2⟩)
 replace FW:=FW.trans B2'
 replace hb5:=Ob.other hb5 nto' (i:=n * 6+2) (.int .i64 (x.scans+1))
 clear B1 B2 B2' A1 A2 hoo
 have B1:=B1'
 clear B1'
 clear t0 t1 t2 t3 t4 t5 c12 q0 zb zt
 generalize (((((((w15.setCell ⟨b,12,none⟩ (Value.slice a23 (y.es.length+1) c23)).setCell ⟨y.tb,n * 6+1,none⟩ (.bool true)).setCell ⟨y.tb,n * 6,none⟩ (.int .i64 (↑i+1))).setCell ⟨y.tb,n * 6+3,none⟩ (.pointer none)).setCell ⟨y.tb,n * 6+4,none⟩ (.pointer none)).setCell ⟨y.tb,n * 6+5,none⟩ (.pointer none)).setCell ⟨y.tb,n * 6+2,none⟩ (.int .i64 (x.scans+1)))=w16 at *
 clear HA HG
 have HB1:=Lib.hid B1
 have HFW:=Lib.hid FW
 clear FW
 obtain ⟨c0,c1,c2,c3,-,-,-,-,-,-,-,-,-⟩:=mc_cells B1.ob
 dsimp only at c0 c1 c2 c3
 have th16:=B1.th
 dsimp only at th16
 have hz5:(y.ts.set n ⟨(i:Int)+1,true,x.scans+1,none,none,none⟩)[n]? = some ⟨(i:Int)+1,true,x.scans+1,none,none,none⟩:=List.getElem?_set_self (by have:=(List.getElem?_eq_some_iff.1 HX.out.2.1).1;exact this)
 have hct:own2 y.tb=4:=B1.ct
 clear B1
 obtain ⟨q0,q1,q2,q3⟩:=op_cells hb5
 have t2:=th_cell th16 hz5 (j:=2) (by decide) rfl
 refine wp_region_free (by kernel_rfl) ?_
 refine any_envL [] w16 #[true,true,true,true,true,true,true,true,true,true,true,true,true,true,true,true,false,false,false] 16 3 rfl ?_
 refine lp [true,true,true,true,true,true,true,true,true,true,true,true,true,true,true,false,false,false,false] 1 ((Fr.refl _ _).drew) ?_
 apply Exists.intro
 refine ⟨fun wf Ff=>?_,?_⟩
 ·have k0:=In.cell (Ff.cell c0 (by simp))
  have k1:=In.cell (Ff.cell c1 (by simp))
  have k2:=In.cell (Ff.cell c2 (by simp))
  have k3:=In.cell (Ff.cell c3 (by simp))
  have p0:=In.cell (Ff.cell q0 (by simp))
  have p1:=In.cell (Ff.cell q1 (by simp))
  have p2:=In.cell (Ff.cell q2 (by simp))
  have p3:=In.cell (Ff.cell q3 (by simp))
  have s2:=In.cell (Ff.cell t2 (by simp))
  simp only [sel]
  repeat (go_big_quiet_step (fail))
  exact wpQuiet_nil rfl
 refine lo 15 (fun w19 F19=>?_)
 have E:=((Fr.refl [] w16).drew).trans F19
 clear F19
 go_wp2_with fail
 refine (newScan_any m.c n (x.scans+1) o.2.1 o.2.2.2 w19).mono ?_;rintro e w20 ⟨pb,B,rfl,hP,hBn,F20⟩
 have HBN:=Lib.hid (fun k hk=>Nat.le_trans E.size (hBn k hk))
 replace E:=E.trans F20
 have HP:=Lib.hid hP
 clear F20 hP hBn c0 c1 c2 c3 q0 q1 q2 q3
 go_wp2_with fail
 refine nx_normal ⟨E,?_⟩
 refine envL_tail (k:=16) rfl (by kernel_rfl) (fun w21 F21=>?_)
 replace E:=E.trans F21
 have hP:=HP.out.kept F21 (by simp)
 have th21:=Ob.up th16 E
 have zt:=th21.frozen
 have t5:=th_cell th21 hz5 (j:=5) (by decide) rfl
 have M:=(HB1.out.recol (n+6) (Nat.le_trans hN0 HFW.out.size)).up E
 have hBc:∀ k,k∈B→recol own2 w16.heap.size (n+6) k=n+6:=fun k hk=>recol_new (HBN.out k hk)
 generalize recol own2 w16.heap.size (n+6)=own3 at *
 clear HP F21
 have HM:=Lib.hid (And.intro M (And.intro hBc hP))
 have HE:=Lib.hid E
 clear M hBc hP E
 go_wp2_with fail
 go_end0
 obtain ⟨M,hBc,hP⟩:=HM.out
 have hct3:own3 y.tb=4:=M.ct
 obtain ⟨C1,C2⟩:=M.setT2 (m:={ m with e:=m.e++[newEv n i o m.now] }) (y:={ y with ev:=(Value.slice a23 (y.es.length+1) c23),es:=es2 }) HTL.out.1 (j:=5) (u:=.pointer (some ⟨pb,0,none⟩)) (x':=⟨(i:Int)+1,true,x.scans+1,none,none,some (Sn.new m.c n (x.scans+1) o.2.1 o.2.2.2)⟩) (z':=⟨(i:Int)+1,true,x.scans+1,none,none,some pb⟩) (by decide) (by simp [fTv,ptrV]) (fun w' F=>⟨B,⟨⟨rfl,rfl,rfl⟩,.inr (.inr (.inl ⟨_,pb,rfl,rfl,rfl,rfl,rfl,rfl,hP.kept F (fun k hk hi=>by simp at hi;subst hi;have:=hBc _ hk;omega)⟩))⟩,hBc⟩)
 dsimp only at C1 C2
 rw [← HX1.out] at C1
 exact ⟨rfl,⟨own3,_,C1⟩,HFW.out.trans ((FrO.of HE.out (by simp)).trans C2)⟩
end Go.Proofs.YtilipdnchflkhaaGreatDoor.Mx
namespace Go.Proofs.YtilipdnchflkhaaGreatDoor.Vw
open Go.ChangeShapes Go.WideShapes Go.ChangeAt Go.RowKit Go.Deep Go.Proofs.YtilipdnchflkhaaGreatDoor.Mx
section
variable {H:Type} {enc:TypeId×Value→H} {W:World}
theorem cesOf:Tryz.prog.underlying 131=some (.struct (Tryz.prog.fieldsOf 131)):=by kernel_rfl
theorem cesOne:oneCellFields Tryz.prog (Tryz.prog.fieldsOf 131)=true:=by kernel_rfl
theorem cesSize:(Tryz.prog.fieldsOf 131).size=3:=by kernel_rfl
theorem cesCells:Tryz.prog.cellsOf 131=(Tryz.prog.fieldsOf 131).size:=by kernel_rfl
theorem cesInts:((Tryz.prog.fieldsOf 131).all fun f=>f.type == 3)=true:=by kernel_rfl
theorem chF:Tryz.prog.underlying 70=some (.struct (Tryz.prog.fieldsOf 70)):=by kernel_rfl
theorem chOne:oneCellFields Tryz.prog (Tryz.prog.fieldsOf 70)=true:=by kernel_rfl
theorem chSize:(Tryz.prog.fieldsOf 70).size=9:=by kernel_rfl
theorem chCells:Tryz.prog.cellsOf 70=9:=by kernel_rfl
theorem chInts:((List.range 8).all fun i=>((Tryz.prog.fieldsOf 70)[i]?).any fun f=>f.type == 3)=true:=by kernel_rfl
theorem chLast:(((Tryz.prog.fieldsOf 70)[8]?).any fun f=>f.type == 68)=true:=by kernel_rfl
theorem flat3 (f:Nat→Ce) (len:Nat):(((List.range len).map f).flatMap fC).length=len * 3:=by rw [fC_lays.flat];simp
theorem flat3_get (f:Nat→Ce) {len j:Nat} {u:Value} (h:(((List.range len).map f).flatMap fC)[j]? = some u):j / 3<len∧(fC (f (j / 3)))[j % 3]? = some u:=by
 have hj:=(List.getElem?_eq_some_iff.1 h).1
 rw [flat3] at hj
 have hi:j / 3<len:=by omega
 refine ⟨hi,?_⟩
 have e:=fC_lays.at (xs:=(List.range len).map f) (i:=j / 3) (j:=j % 3) (x:=f (j / 3)) (by simp [hi]) (by omega)
 rw [show j / 3 * 3+j % 3=j by omega] at e
 rw [← e];exact h
theorem cells_of_trod {n:Nat} {v:Value} {x:DataW H×List MemPlace} (h:DataW.trod enc Tryz.prog W 0 (fun _=>true) true n 68 [v]=some x):∃ cs,Sq fC W v cs:=by
 rcases Law.open_slice_fields Tryz.underlying68 cesOf cesOne cesCells h with ⟨hcs,hx⟩ | ⟨a,len,cap,m,D,Pl,hcs,_,hl,hm,hmm,hx,hi⟩
 ·obtain rfl:v = .slice none 0 0:=by simpa using hcs
  exact ⟨[],Sq.nil W⟩
 ·obtain rfl:v = .slice (some a) len cap:=by simpa using hcs
  simp only [if_true] at hmm
  rw [cesSize] at hi
  have key:∀ i,i<len→∀ j,j<3→∃ z:Int,W.cell? (a.add (i * 3+j))=some (.int .i64 z):=by
   intro i hil j hj
   obtain ⟨ys,n,_,_,_,hf'⟩:=hi i (by omega)
   have hjs:j<(Tryz.prog.fieldsOf 131).size:=by rw [cesSize];exact hj
   obtain ⟨u,y,h1,h2,h3⟩:=hf' j _ (Array.getElem?_eq_getElem hjs)
   rw [Law.fields_all cesInts j _ (Array.getElem?_eq_getElem hjs)] at h3
   obtain ⟨z,hz,-,hw⟩:=DataW.trod_int Tryz.underlying3 h3
   obtain rfl:u = .int .i64 z:=by simpa using hz
   exact ⟨z,h1⟩
  by_cases h0:len=0
  ·subst h0;exact ⟨[],some a,cap,rfl,Nat.zero_le _,hm,.inl rfl⟩
  obtain ⟨b,off,spot⟩:=a
  obtain ⟨z0,h00⟩:=key 0 (by omega) 0 (by decide)
  have hspot:spot=none:=by simpa [Addr.add] using World.cell?_spot h00
  subst hspot
  have hb:b<W.heap.size:=by
   have:=World.block_lt_of_cell? W _ h00
   simpa [Addr.add] using this
  have at_:∀ i j,i<len→j<3→W.cell? ⟨b,off+(i * 3+j),none⟩=some (.int .i64 (intOf ((W.cell? ⟨b,off+(i * 3+j),none⟩).getD undef))):=by
   intro i j hi hj
   obtain ⟨z,h1⟩:=key i hi j hj
   rw [addr_add] at h1
   rw [h1];rfl
  refine ⟨(List.range len).map fun i=>⟨intOf ((W.cell? ⟨b,off+(i * 3+0),none⟩).getD undef),intOf ((W.cell? ⟨b,off+(i * 3+1),none⟩).getD undef),intOf ((W.cell? ⟨b,off+(i * 3+2),none⟩).getD undef)⟩,some ⟨b,off,none⟩,cap,by simp,by simpa using hl,hm,.inr ⟨b,off,rfl,hb,fun j u hu=>?_⟩⟩
  obtain ⟨h1,h2⟩:=flat3_get _ hu
  have h3:j % 3=0∨j % 3=1∨j % 3=2:=by omega
  have e:j=j / 3 * 3+j % 3:=by omega
  rcases h3 with h3 | h3 | h3
  ·rw [h3] at h2 e
   rw [e,at_ (j / 3) 0 h1 (by decide)];simpa [fC] using h2
  ·rw [h3] at h2 e
   rw [e,at_ (j / 3) 1 h1 (by decide)];simpa [fC] using h2
  ·rw [h3] at h2 e
   rw [e,at_ (j / 3) 2 h1 (by decide)];simpa [fC] using h2
theorem open_chunk {r:Reach} {b0:Nat} {v:Value} {d:DataW H} {p:List MemPlace} (hv:Value.okWide Tryz.prog W r b0 70 v) (h:DataW.Trod enc Tryz.prog W 0 (fun _=>true) true 70 v d p) :
  ∃ hd cs,ChIs W v hd cs:=by
 obtain ⟨cs,rfl,hsz⟩:=okWide_struct chF hv
 obtain ⟨fuel,hf⟩:=h
 obtain ⟨xs,n,-,-,hl,hlen,hf'⟩:=DataW.trod_struct chF hf
 rw [chCells] at hsz
 rw [chSize] at hlen
 obtain ⟨l⟩:=cs
 match l,hsz with
 | [x0,x1,x2,x3,x4,x5,x6,x7,x8],_ =>
  have key:∀ i,i<8→∀ x,[x0,x1,x2,x3,x4,x5,x6,x7,x8][i]? = some x→∃ z:Int,x = .int .i64 z:=by
   intro i hi x hx
   have hi9:i<(Tryz.prog.fieldsOf 70).size:=by rw [chSize];omega
   have hfi:=Array.getElem?_eq_getElem hi9
   obtain ⟨ho,hk⟩:=hone_of chOne i _ hfi
   have h1:=hf' i _ hfi
   have ht:=List.all_eq_true.1 chInts i (List.mem_range.2 hi)
   rw [hfi,Option.any_some] at ht
   rw [ho,hk,show (Tryz.prog.fieldsOf 70)[i].type=3 by simpa using ht] at h1
   have hone':(([x0,x1,x2,x3,x4,x5,x6,x7,x8]:List Value).drop i).take 1=[x]:=by
    rw [List.drop_eq_getElem?_toList_append,hx];rfl
   simp only [Value.cells] at h1
   rw [hone'] at h1
   obtain ⟨ys,hys⟩:∃ y,xs[i]? = some y:=⟨xs[i]'(by omega),List.getElem?_eq_getElem _⟩
   rw [hys] at h1
   obtain ⟨z,hz,-,-⟩:=DataW.trod_int Tryz.underlying3 h1
   exact ⟨z,by simpa using hz⟩
  obtain ⟨z0,rfl⟩:=key 0 (by decide) x0 rfl
  obtain ⟨z1,rfl⟩:=key 1 (by decide) x1 rfl
  obtain ⟨z2,rfl⟩:=key 2 (by decide) x2 rfl
  obtain ⟨z3,rfl⟩:=key 3 (by decide) x3 rfl
  obtain ⟨z4,rfl⟩:=key 4 (by decide) x4 rfl
  obtain ⟨z5,rfl⟩:=key 5 (by decide) x5 rfl
  obtain ⟨z6,rfl⟩:=key 6 (by decide) x6 rfl
  obtain ⟨z7,rfl⟩:=key 7 (by decide) x7 rfl
  have hi9:8<(Tryz.prog.fieldsOf 70).size:=by rw [chSize];omega
  have hfi:=Array.getElem?_eq_getElem hi9
  obtain ⟨ho,hk⟩:=hone_of chOne 8 _ hfi
  have h1:=hf' 8 _ hfi
  have ht:=chLast
  rw [hfi,Option.any_some] at ht
  rw [ho,hk,show (Tryz.prog.fieldsOf 70)[8].type=68 by simpa using ht] at h1
  obtain ⟨ys,hys⟩:∃ y,xs[8]? = some y:=⟨xs[8]'(by omega),List.getElem?_eq_getElem _⟩
  rw [hys] at h1
  obtain ⟨cs,hcs⟩:=cells_of_trod (v:=x8) h1
  exact ⟨⟨z0,z1,z2,z3,z4,z5,z6,z7⟩,cs,x8,rfl,hcs⟩
end
end Go.Proofs.YtilipdnchflkhaaGreatDoor.Vw
