/- Texts that this proof leans on, one behind the other: Made, Keep, Mins, Look, Look2, Look3. -/
import Derived.Test.YtilipdnchflkhaaGreatDoorVaj
import Derived.Test.YtilipdnchflkhaaGreatDoorVam
import Derived.Laws.OwnMore
set_option linter.unusedVariables false
set_option linter.unusedSimpArgs false
set_option maxRecDepth 100000
set_option maxHeartbeats 12800000
namespace Go.Proofs.YtilipdnchflkhaaGreatDoor.Mx
open Go.RowKit Go.Proofs.YtilipdnchflkhaaGreatDoor.Ar
section
variable {α:Type} {f:α→List Value} {sz:Nat}
def fillL (ms:List α) (z:α) (i:Nat):List α:=ms.take i++List.replicate (ms.length - i) z
theorem fill_zero (ms:List α) (z:α):fillL ms z 0=List.replicate ms.length z:=by simp [fillL]
theorem fill_len (ms:List α) (z:α) {i:Nat} (h:i≤ms.length):(fillL ms z i).length=ms.length:=by simp [fillL];omega
theorem fill_next (ms:List α) (z:α) {i:Nat} (h:i<ms.length):fillL ms z i=ms.take i++z :: List.replicate (ms.length - (i+1)) z:=by
 unfold fillL
 rw [show ms.length - i=(ms.length - (i+1))+1 by omega,List.replicate_succ]
theorem fill_set {ms:List α} (z:α) {i:Nat} {v:α} (h:ms[i]? = some v):(fillL ms z i).set i v=fillL ms z (i+1):=by
 have hl:=(List.getElem?_eq_some_iff.1 h).1
 rw [fill_next ms z hl]
 unfold fillL
 rw [List.take_add_one,h,Option.toList_some,List.append_assoc,List.set_append_right _ _ (by rw [List.length_take];omega),show i - (ms.take i).length=0 by rw [List.length_take];omega]
 rfl
theorem fill_at {ms:List α} (z:α) {i:Nat} (h:i<ms.length):(fillL ms z i)[i]? = some z:=by
 rw [fill_next ms z h,List.getElem?_append_right (by rw [List.length_take];omega),show i - (ms.take i).length=0 by rw [List.length_take];omega]
 rfl
theorem fill_done {ms:List α} (z:α) {i j:Nat} (h:j<i) (hj:j<ms.length):(fillL ms z i)[j]? = ms[j]?:=by
 unfold fillL
 rw [List.getElem?_append_left (by simp;omega),List.getElem?_take_of_lt h]
theorem made_flat (hL:Lays f sz) (z:α) (zs:Array Value) (hz:zs.toList=f z) (n:Nat):(madeCells zs (n * sz)).toList=(List.replicate n z).flatMap f:=by
 have hzs:zs.size=sz:=by rw [← Array.length_toList,hz,hL.len]
 apply List.ext_getElem?
 intro k
 by_cases hk:k<n * sz
 ·have h1:k / sz<n:=(Nat.div_lt_iff_lt_mul hL.pos).2 hk
  have h2:k % sz<sz:=Nat.mod_lt _ hL.pos
  have h3:k=(k / sz) * sz+k % sz:=by rw [Nat.mul_comm];exact (Nat.div_add_mod k sz).symm
  have e:((List.replicate n z).flatMap f)[k]? = (f z)[k % sz]?:=by
   have:=hL.at (xs:=List.replicate n z) (i:=k / sz) (j:=k % sz) (x:=z) (by rw [List.getElem?_replicate];simp [h1]) h2
   rw [← h3] at this;exact this
  rw [e,← hz]
  simp only [madeCells,Array.toList_map,Array.toList_range,List.getElem?_map,List.getElem?_range hk,Option.map_some,hzs]
  rw [Array.getElem?_toList,getElem!_pos zs (k % sz) (by rw [hzs];exact h2)]
  rw [Array.getElem?_eq_getElem]
 ·rw [List.getElem?_eq_none (by simp [madeCells];omega),List.getElem?_eq_none (by rw [hL.flat];simp;omega)]
theorem wpList_mk {P:Program} {w:World} {ops:Array Oper} {rest:List Oper} {o:Oper} {a:Act} {Q:Exit→Act→World→Prop} (hL:Lays f sz) (hg:o.guard=none) (l c:Operand) (t:TypeId) (hop:o.op=Op.makeSlice t l c)
  {E:TypeId} {z:Value} {bytes:Nat} (ht:P.underlying t=some (.slice E)) (hi:(P.info? E).map (fun i=>(i.zero,i.size,i.bytes))=some (some z,sz,bytes)) (z0:α) (hz:z.cells.toList=f z0)
  (n:Nat) (hl:a.eval l = .int .i64 (n:Int)) (hc:a.eval c = .int .i64 (n:Int)) (hn:n≤1000000) (hb:bytes≤1000)
  (hK:∀ w',Ob w' w.heap.size E ((List.replicate n z0).flatMap f).toArray→Fr [] w w'→wpList P ops Q rest (a.put o.dst (.slice (some ⟨w.heap.size,0,none⟩) n n)) w'):wpList P ops Q (o :: rest) a w:=by
 obtain ⟨i,hi0,hz0,hs0,hb0⟩:=info_parts hi
 refine wpList_make_full w hg l c t hop 0 E i z sz ht hi0 hz0 hs0 .i64 .i64 _ _ n hl hc rfl rfl (by rw [hb0];have:=Nat.mul_le_mul hb hn;omega) (by unfold maxLen;omega) (Nat.zero_le _) fun w' hown hgr=>?_
 refine hK w' ?_ (Fr.grown hgr)
 obtain ⟨-,hown⟩:=hown
 rcases hown with ⟨e1,-⟩ | ⟨g,cap,cur,e1,-,hh,hc1,hc2,hs,ht2⟩
 ·simp at e1
 simp only [Value.slice.injEq,Option.some.injEq,Addr.mk.injEq] at e1
 obtain ⟨⟨rfl,-⟩,-,rfl⟩:=e1
 rw [made_flat hL z0 _ hz,List.take_of_length_le (by simp;omega)] at ht2
 have:cur=((List.replicate n z0).flatMap f).toArray:=by rw [← ht2]
 rw [this] at hh
 exact hh
theorem flat_set (hL:Lays f sz):∀ {xs:List α} {i j:Nat} {x x':α} {u:Value},xs[i]? = some x→j<sz→f x'=(f x).set j u→(xs.flatMap f).set (i * sz+j) u=(xs.set i x').flatMap f
 | [],i,j,x,x',u,h,_,_=>by simp at h
 | y :: xs,0,j,x,x',u,h,hj,hf=>by
  obtain rfl:y=x:=by simpa using h
  rw [List.flatMap_cons,List.set_cons_zero,List.flatMap_cons,Nat.zero_mul,Nat.zero_add,List.set_append_left _ _ (by rw [hL.len];exact hj),hf]
 | y :: xs,i+1,j,x,x',u,h,hj,hf=>by
  rw [List.flatMap_cons,List.set_cons_succ,List.flatMap_cons,List.set_append_right _ _ (by rw [hL.len,Nat.succ_mul];omega),hL.len,Nat.succ_mul,show i * sz+sz+j - sz=i * sz+j by omega,flat_set hL (by simpa using h) hj hf]
theorem Ob.seg (hL:Lays f sz) {w:World} {b:Nat} {T:TypeId} {xs:List α} (o:Ob w b T (xs.flatMap f).toArray) {i j:Nat} {x x':α} {u:Value} (hi:xs[i]? = some x) (hj:j<sz) (hf:f x'=(f x).set j u) :
  Ob (w.setCell ⟨b,i * sz+j,none⟩ u) b T ((xs.set i x').flatMap f).toArray:=by
 have:=o.set (i:=i * sz+j) u
 have e:(xs.flatMap f).toArray.setIfInBounds (i * sz+j) u=((xs.set i x').flatMap f).toArray:=by
  rw [← flat_set hL hi hj hf];simp
 rw [e] at this;exact this
theorem Ob.segCell (hL:Lays f sz) {w:World} {b:Nat} {T:TypeId} {xs:List α} (o:Ob w b T (xs.flatMap f).toArray) {i j:Nat} {x:α} {u:Value} (hi:xs[i]? = some x) (hj:(f x)[j]? = some u):w.cell? ⟨b,i * sz+j,none⟩=some u:=by
 refine o.cell ?_
 have hj':j<sz:=by have:=(List.getElem?_eq_some_iff.1 hj).1;rw [hL.len] at this;exact this
 rw [List.getElem?_toArray,hL.at hi hj']
 exact hj
theorem Ob.sq (hL:Lays f sz) {w:World} {b:Nat} {T:TypeId} {xs:List α} (o:Ob w b T (xs.flatMap f).toArray) (hm:xs.length≤1000000):Sq f w (.slice (some ⟨b,0,none⟩) xs.length xs.length) xs :=
 Sq.block o (by simp) rfl (Nat.le_refl _) (by unfold maxLen;omega)
end
def KepAt (w:World) (s:List It) (vs:List Int) (u x:Value) (wr:World):Prop:=∃ i out,i≤s.length∧x = .int .i64 (i:Nat)∧out.length≤i∧wr.ownsRow w.heap.size 60 3 u out.length (out.flatMap fT)∧Fr [] w wr∧out++keepS vs (s.drop i)=keepS vs s
def KpvAt (wr:World) (vs:List Int) (last:Bool) (P:Int→Bool) (u x:Value) (w':World):Prop:=∃ k,k≤vs.length∧x = .int .i64 (k:Nat)∧u = .bool (last || (vs.take k).any P)∧Fr [] wr w'
theorem any_more {P:Int→Bool} {vs:List Int} {k:Nat} {z:Int} (hz:vs[k]? = some z):(vs.take (k+1)).any P=((vs.take k).any P || P z):=by
 rw [List.take_add_one,hz,Option.toList_some,List.any_append];simp
theorem keepS_at {vs:List Int} {s:List It} {i:Nat} {x:It} (hx:s[i]? = some x):keepS vs (s.drop i)=if keepsB x s[i+1]? vs=true then x :: keepS vs (s.drop (i+1)) else keepS vs (s.drop (i+1)):=by
 obtain ⟨hi,rfl⟩:=List.getElem?_eq_some_iff.1 hx
 rw [List.drop_eq_getElem_cons hi]
 show (if keepsB _ (s.drop (i+1)).head? vs=true then _ else _)=_
 rw [List.head?_drop]
theorem keep_any (l:List It) (vs:List Int) (v u:Value) (w:World) (hl:l.length≤1000) (hvl:vs.length≤1000) (h:Sq fT w v l) (hv:Sq fI w u vs) :
  Calls Tryz.prog 227 #[v,u] w fun e w'=>(∃ r,e = .returned r∧w'.ownsRow w.heap.size 60 3 r (keepT l vs).length ((keepT l vs).flatMap fT))∧Fr [] w w':=by
 unfold keepT
 obtain ⟨av,cv,rfl,hcv,hmv,-⟩:=id hv
 go_enter Tryz.func227,Tryz.ntmps227
 go_wp2_with fail
 refine (sort_any l v w hl h).mono ?_;rintro e w1 ⟨⟨u1,rfl,r1⟩,F1⟩
 have hs1:(sortT l).length≤1000:=by rw [sortT_length];exact hl
 generalize hso:sortT l=s at *
 have HSO:=Lib.hid hso
 clear hso
 obtain ⟨asl,csl,rfl,hcs,hms,-⟩:=id (Sq.own (f:=fT) r1)
 have S1:=Sq.own (f:=fT) r1
 have hv1:=hv.up F1
 have HF1:=Lib.hid F1
 clear r1 h hv F1
 go_wp2_with fail
 go_loopw [6,7] (KepAt w1 s vs) (fun _ x _=>s.length - (intOf x).toNat)
 case atStart=>exact ⟨0,[],by omega,rfl,by simp,⟨rfl,.inl ⟨rfl,rfl⟩⟩,Fr.refl _ _,by simp⟩
 case round =>
  obtain ⟨i,out,hi,rfl,ho,hr,F,hk⟩:=hrel
  by_cases hlt:i<s.length
  ·obtain ⟨x,hx⟩:∃ x,s[i]? = some x:=⟨s[i],List.getElem?_eq_getElem hlt⟩
   have hS:=S1.up F
   obtain ⟨gs,os,rfl,x0,x1,x2⟩:=it_cells hS hx
   rw [keepS_at hx] at hk
   obtain ⟨ao,co,rfl,hco,hcm,-⟩:=id (Sq.own (f:=fT) hr)
   have HK:=Lib.hid hk
   clear hk
   by_cases hE:i+1=s.length
   ·have hn:s[i+1]? = none:=List.getElem?_eq_none (by omega)
    have hkb:keepsB x s[i+1]? vs=true:=by rw [hn];simp [keepsB]
    have HKB:=Lib.hid hkb
    have g1:(((i:Nat):Int)+1 == ((s.length:Nat):Int))=true:=by simp;omega
    clear hkb hn
    go_wp2_with fail
    have k0:=In.cell x0
    skip
    refine wi ?_
    repeat (go_big_quiet_step (fail))
    refine wpQuiet_nil ?_
    intro w5 F5
    clear k0
    go_wp2_with fail
    have HFF:=Lib.hid (F.trans F5)
    have r5:=Lib.hid (row_keeps hr F5)
    have x0:=F5.cell x0 (by simp)
    have x1:=F5.cell x1 (by simp)
    have x2:=F5.cell x2 (by simp)
    skip
    have HV5:=Lib.hid (hv1.up HFF.out)
    go_loopw [9,10] (KpvAt w5 vs true (fun _=>false)) (fun _ x _=>vs.length - (intOf x).toNat)
    case atStart=>exact ⟨0,Nat.zero_le _,rfl,by simp,Fr.refl _ _⟩
    case round =>
     obtain ⟨k,hk,rfl,hu,F6⟩:=hrel
     by_cases hkl:k<vs.length
     ·obtain ⟨z,hz⟩:∃ z,vs[k]? = some z:=⟨vs[k],List.getElem?_eq_getElem hkl⟩
      have hmore:=any_more (P:=(fun _=>false)) hz
      have HM:=Lib.hid hmore
      clear hmore
      have HF6:=Lib.hid F6
      have hu':=hu.trans (show _=Value.bool true by simp)
      subst hu'
      clear hu
      clear F6
      go_wp2_with fail
      refine wi ?_
      repeat (go_big_quiet_step (fail))
      refine wpQuiet_nil ?_
      intro w7 F7
      go_wp2_with fail
      go_roundw
      case rel=>exact ⟨k+1,by omega,by go_num,by simp,HF6.out.trans F7⟩
      case measure=>simp [intOf];omega
     ·obtain rfl:k=vs.length:=by omega
      rw [List.take_length] at hu
      have hu':=hu.trans (show _=Value.bool true by simp)
      subst hu'
      clear hu
      have x0:=F6.cell x0 (by simp)
      have x1:=F6.cell x1 (by simp)
      have x2:=F6.cell x2 (by simp)
      have HFG:=Lib.hid (HFF.out.trans F6)
      have r6:=row_keeps r5.out F6
      have F12:=(Fr.refl [] wr).alloc (.cells #[.int .i64 x.k,.int .i64 x.v,.int .i64 x.d] 60)
      have B12:=Go.heap_alloc_new wr (.cells #[.int .i64 x.k,.int .i64 x.v,.int .i64 x.d] 60)
      have r12:=row_keeps r6 F12
      have HG:=Lib.hid (HFG.out.trans F12)
      clear r6 F12 F6
      go_wp2_with (at_builtin;refine wpList_appSq fT_lays rfl _ _ 51 rfl Tryz.underlying51 itI rfl (B:=w1.heap.size) _ out rfl r12 _ [x] rfl (Sq.block B12 rfl rfl (Nat.le_refl _) (by simp [maxLen])) (by simp;omega) (by decide) HG.out.size ?_;intro a21 c21 w21 r21 f21)
      have HR:=Lib.hid (show w21.ownsRow w1.heap.size 60 3 (.slice a21 (out.length+1) c21) (out++[x]).length ((out++[x]).flatMap fT) by rw [show (Value.slice a21 (out++[x]).length c21)=Value.slice a21 (out.length+1) c21 by simp] at r21;exact r21)
      have HG2:=Lib.hid (HG.out.own f21 (row_base r12))
      clear r21 f21 r12 B12
      go_wp2_with fail
      go_roundw
      case rel=>exact ⟨i+1,out++[x],by omega,by go_num,by simp;omega,HR.out,HG2.out,by rw [← HK.out,HKB.out];simp⟩
      case measure=>simp [intOf];omega
   ·obtain ⟨y,hy⟩:∃ y,s[i+1]? = some y:=⟨s[i+1],List.getElem?_eq_getElem (by omega)⟩
    obtain ⟨gs',os',hgs,y0,y1,-⟩:=it_cells hS hy
    simp only [Option.some.injEq,Addr.mk.injEq] at hgs
    obtain ⟨rfl,rfl,-⟩:=hgs
    by_cases hD:¬ y.k=x.k
    ·have hkb:keepsB x s[i+1]? vs=true:=by rw [hy];simp [keepsB,hD]
     have g2:(y.k == x.k)=false:=by simpa using hD
     have g3:(y.k != x.k)=true:=by simpa using hD
     have HKB:=Lib.hid hkb
     have HD:=Lib.hid hD
     have g1:(((i:Nat):Int)+1 == ((s.length:Nat):Int))=false:=by simp;omega
     clear hkb hD
     go_wp2_with fail
     have k0:=In.cell x0
     have j0:=In.cell y0
     refine wi ?_
     repeat (go_big_quiet_step (fail))
     refine wpQuiet_nil ?_
     intro w5 F5
     clear k0 j0
     go_wp2_with fail
     have HFF:=Lib.hid (F.trans F5)
     have r5:=Lib.hid (row_keeps hr F5)
     have x0:=F5.cell x0 (by simp)
     have x1:=F5.cell x1 (by simp)
     have x2:=F5.cell x2 (by simp)
     have y1:=F5.cell y1 (by simp)
     have HV5:=Lib.hid (hv1.up HFF.out)
     go_loopw [9,10] (KpvAt w5 vs true (fun _=>false)) (fun _ x _=>vs.length - (intOf x).toNat)
     case atStart=>exact ⟨0,Nat.zero_le _,rfl,by simp,Fr.refl _ _⟩
     case round =>
      obtain ⟨k,hk,rfl,hu,F6⟩:=hrel
      by_cases hkl:k<vs.length
      ·obtain ⟨z,hz⟩:∃ z,vs[k]? = some z:=⟨vs[k],List.getElem?_eq_getElem hkl⟩
       have hmore:=any_more (P:=(fun _=>false)) hz
       have HM:=Lib.hid hmore
       clear hmore
       have HF6:=Lib.hid F6
       have hu':=hu.trans (show _=Value.bool true by simp)
       subst hu'
       clear hu
       clear F6
       go_wp2_with fail
       refine wi ?_
       repeat (go_big_quiet_step (fail))
       refine wpQuiet_nil ?_
       intro w7 F7
       go_wp2_with fail
       go_roundw
       case rel=>exact ⟨k+1,by omega,by go_num,by simp,HF6.out.trans F7⟩
       case measure=>simp [intOf];omega
      ·obtain rfl:k=vs.length:=by omega
       rw [List.take_length] at hu
       have hu':=hu.trans (show _=Value.bool true by simp)
       subst hu'
       clear hu
       have x0:=F6.cell x0 (by simp)
       have x1:=F6.cell x1 (by simp)
       have x2:=F6.cell x2 (by simp)
       have HFG:=Lib.hid (HFF.out.trans F6)
       have r6:=row_keeps r5.out F6
       have F12:=(Fr.refl [] wr).alloc (.cells #[.int .i64 x.k,.int .i64 x.v,.int .i64 x.d] 60)
       have B12:=Go.heap_alloc_new wr (.cells #[.int .i64 x.k,.int .i64 x.v,.int .i64 x.d] 60)
       have r12:=row_keeps r6 F12
       have HG:=Lib.hid (HFG.out.trans F12)
       clear r6 F12 F6
       go_wp2_with (at_builtin;refine wpList_appSq fT_lays rfl _ _ 51 rfl Tryz.underlying51 itI rfl (B:=w1.heap.size) _ out rfl r12 _ [x] rfl (Sq.block B12 rfl rfl (Nat.le_refl _) (by simp [maxLen])) (by simp;omega) (by decide) HG.out.size ?_;intro a21 c21 w21 r21 f21)
       have HR:=Lib.hid (show w21.ownsRow w1.heap.size 60 3 (.slice a21 (out.length+1) c21) (out++[x]).length ((out++[x]).flatMap fT) by rw [show (Value.slice a21 (out++[x]).length c21)=Value.slice a21 (out.length+1) c21 by simp] at r21;exact r21)
       have HG2:=Lib.hid (HG.out.own f21 (row_base r12))
       clear r21 f21 r12 B12
       go_wp2_with fail
       go_roundw
       case rel=>exact ⟨i+1,out++[x],by omega,by go_num,by simp;omega,HR.out,HG2.out,by rw [← HK.out,HKB.out];simp⟩
       case measure=>simp [intOf];omega
    ·have hkb:keepsB x s[i+1]? vs=vs.any (fun z=>decide (x.v≤z) && decide (z<y.v)):=by rw [hy];have hD:=Classical.not_not.1 hD;simp [keepsB,hD]
     have g2:(y.k == x.k)=true:=by simpa using Classical.not_not.1 hD
     have g3:(y.k != x.k)=false:=by simpa using Classical.not_not.1 hD
     have HKB:=Lib.hid hkb
     have HD:=Lib.hid hD
     have g1:(((i:Nat):Int)+1 == ((s.length:Nat):Int))=false:=by simp;omega
     clear hkb hD
     go_wp2_with fail
     have k0:=In.cell x0
     have j0:=In.cell y0
     refine wi ?_
     repeat (go_big_quiet_step (fail))
     refine wpQuiet_nil ?_
     intro w5 F5
     clear k0 j0
     go_wp2_with fail
     have HFF:=Lib.hid (F.trans F5)
     have r5:=Lib.hid (row_keeps hr F5)
     have x0:=F5.cell x0 (by simp)
     have x1:=F5.cell x1 (by simp)
     have x2:=F5.cell x2 (by simp)
     have y1:=F5.cell y1 (by simp)
     have HV5:=Lib.hid (hv1.up HFF.out)
     go_loopw [9,10] (KpvAt w5 vs false (fun z=>decide (x.v≤z) && decide (z<y.v))) (fun _ x _=>vs.length - (intOf x).toNat)
     case atStart=>exact ⟨0,Nat.zero_le _,rfl,by simp,Fr.refl _ _⟩
     case round =>
      obtain ⟨k,hk,rfl,hu,F6⟩:=hrel
      by_cases hkl:k<vs.length
      ·obtain ⟨z,hz⟩:∃ z,vs[k]? = some z:=⟨vs[k],List.getElem?_eq_getElem hkl⟩
       have hmore:=any_more (P:=(fun z=>decide (x.v≤z) && decide (z<y.v))) hz
       have HM:=Lib.hid hmore
       clear hmore
       have HF6:=Lib.hid F6
       by_cases hP:(vs.take k).any (fun z=>decide (x.v≤z) && decide (z<y.v))=true
       ·have hu':=hu.trans (show _=Value.bool true by rw [hP];rfl)
        subst hu'
        clear hu
        have HP:=Lib.hid hP
        clear hP F6
        go_wp2_with fail
        refine wi ?_
        repeat (go_big_quiet_step (fail))
        refine wpQuiet_nil ?_
        intro w7 F7
        go_wp2_with fail
        go_roundw
        case rel=>exact ⟨k+1,by omega,by go_num,by rw [HM.out,HP.out];rfl,HF6.out.trans F7⟩
        case measure=>simp [intOf];omega
       ·rw [Bool.not_eq_true] at hP
        have hu':=hu.trans (show _=Value.bool false by rw [hP];rfl)
        subst hu'
        clear hu
        have HP:=Lib.hid hP
        clear hP
        have y1:=In.cell (F6.cell y1 (by simp))
        have x1:=In.cell (F6.cell x1 (by simp))
        obtain ⟨gv,ov,rfl,z0⟩:=int_cell (HV5.out.up F6) hz
        have z0:=In.cell z0
        clear F6
        by_cases ha:x.v≤z
        ·have g5:decide (x.v≤z)=true:=by simpa using ha
         have HA:=Lib.hid ha
         clear ha
         by_cases hb:z<y.v
         ·have g6:decide (y.v>z)=true:=by simpa using hb
          have HB:=Lib.hid hb
          clear hb
          go_wp2_with fail
          refine wi ?_
          repeat (go_big_quiet_step (fail))
          refine wpQuiet_nil ?_
          intro w7 F7
          go_wp2_with fail
          go_roundw
          case rel=>exact ⟨k+1,by omega,by go_num,by rw [HM.out,HP.out];simp [HA.out,HB.out],HF6.out.trans F7⟩
          case measure=>simp [intOf];omega
         ·have g6:decide (y.v>z)=false:=by simpa using hb
          have HB:=Lib.hid hb
          clear hb
          go_wp2_with fail
          refine wi ?_
          repeat (go_big_quiet_step (fail))
          refine wpQuiet_nil ?_
          intro w7 F7
          go_wp2_with fail
          go_roundw
          case rel=>exact ⟨k+1,by omega,by go_num,by rw [HM.out,HP.out];simp only [decide_eq_false (Int.not_lt.2 HB.out),Bool.and_false];rfl,HF6.out.trans F7⟩
          case measure=>simp [intOf];omega
        ·have g5:decide (x.v≤z)=false:=by simpa using ha
         have HA:=Lib.hid ha
         clear ha
         go_wp2_with fail
         refine wi ?_
         repeat (go_big_quiet_step (fail))
         refine wpQuiet_nil ?_
         intro w7 F7
         go_wp2_with fail
         go_roundw
         case rel=>exact ⟨k+1,by omega,by go_num,by rw [HM.out,HP.out];simp only [decide_eq_false (Int.not_le.2 HA.out),Bool.false_and];rfl,HF6.out.trans F7⟩
         case measure=>simp [intOf];omega
      ·obtain rfl:k=vs.length:=by omega
       rw [List.take_length] at hu
       by_cases hq:vs.any (fun z=>decide (x.v≤z) && decide (z<y.v))=true
       ·have hu':=hu.trans (show _=Value.bool true by rw [hq];rfl)
        subst hu'
        clear hu
        have HQ:=Lib.hid hq
        clear hq
        have x0:=F6.cell x0 (by simp)
        have x1:=F6.cell x1 (by simp)
        have x2:=F6.cell x2 (by simp)
        have HFG:=Lib.hid (HFF.out.trans F6)
        have r6:=row_keeps r5.out F6
        have F12:=(Fr.refl [] wr).alloc (.cells #[.int .i64 x.k,.int .i64 x.v,.int .i64 x.d] 60)
        have B12:=Go.heap_alloc_new wr (.cells #[.int .i64 x.k,.int .i64 x.v,.int .i64 x.d] 60)
        have r12:=row_keeps r6 F12
        have HG:=Lib.hid (HFG.out.trans F12)
        clear r6 F12 F6
        go_wp2_with (at_builtin;refine wpList_appSq fT_lays rfl _ _ 51 rfl Tryz.underlying51 itI rfl (B:=w1.heap.size) _ out rfl r12 _ [x] rfl (Sq.block B12 rfl rfl (Nat.le_refl _) (by simp [maxLen])) (by simp;omega) (by decide) HG.out.size ?_;intro a21 c21 w21 r21 f21)
        have HR:=Lib.hid (show w21.ownsRow w1.heap.size 60 3 (.slice a21 (out.length+1) c21) (out++[x]).length ((out++[x]).flatMap fT) by rw [show (Value.slice a21 (out++[x]).length c21)=Value.slice a21 (out.length+1) c21 by simp] at r21;exact r21)
        have HG2:=Lib.hid (HG.out.own f21 (row_base r12))
        clear r21 f21 r12 B12
        go_wp2_with fail
        go_roundw
        case rel=>exact ⟨i+1,out++[x],by omega,by go_num,by simp;omega,HR.out,HG2.out,by rw [← HK.out,HKB.out,HQ.out];simp⟩
        case measure=>simp [intOf];omega
       ·rw [Bool.not_eq_true] at hq
        have hu':=hu.trans (show _=Value.bool false by rw [hq];rfl)
        subst hu'
        clear hu
        have HQ:=Lib.hid hq
        clear hq
        have HR:=Lib.hid (row_keeps r5.out F6)
        have HG2:=Lib.hid (HFF.out.trans F6)
        clear F6
        go_wp2_with fail
        go_roundw
        case rel=>exact ⟨i+1,out,by omega,by go_num,by omega,HR.out,HG2.out,by rw [← HK.out,HKB.out,HQ.out];simp⟩
        case measure=>simp [intOf];omega
  ·obtain rfl:i=s.length:=by omega
   rw [List.drop_length] at hk
   have hk':out=keepS vs s:=by rw [← hk];simp [keepS]
   rw [hk'] at hr
   have HR:=Lib.hid (row_more hr HF1.out.size)
   have HG:=Lib.hid (HF1.out.trans F)
   obtain ⟨ao,co,rfl,-,-⟩:=row_cell hr
   clear hk' hk hr F
   go_wp2_with fail
   go_ret
   rw [HSO.out]
   exact ⟨⟨_,rfl,HR.out⟩,HG.out⟩
structure Sv where
 a:Option Addr
 n:Nat
 c:Nat
def Sv.v (s:Sv):Value:=.slice s.a s.n s.c
def fS (s:Sv):List Value:=[s.v]
theorem fS_lays:Lays fS 1:=⟨fun _=>rfl,fun x u hu=>by rw [List.mem_singleton.1 hu];rfl,by decide⟩
theorem svI:(Tryz.prog.info? 51).map (fun i=>(i.zero,i.size,i.bytes))=some (some (.slice none 0 0),1,24):=by kernel_rfl
def Gs (w:World) (ss:List Sv) (gs:List (List It)):Prop:=ss.length=gs.length∧∀ (i:Nat) (s:Sv) (g:List It),ss[i]? = some s→gs[i]? = some g→Sq fT w s.v g
theorem Gs.kept {S:List Nat} {w w':World} {ss:List Sv} {gs:List (List It)} (h:Gs w ss gs) (k:Fr S w w') (hS:∀ s,s∈ss→∀ g,g∈s.v.ownBlock.toList→g∉S):Gs w' ss gs :=
 ⟨h.1,fun i s g e1 e2=>(h.2 i s g e1 e2).kept k (hS s (List.mem_of_getElem? e1))⟩
theorem Gs.up {w w':World} {ss:List Sv} {gs:List (List It)} (h:Gs w ss gs) (k:Fr [] w w'):Gs w' ss gs:=h.kept k (by simp)
theorem Gs.one {w:World} {ss:List Sv} {gs:List (List It)} (h:Gs w ss gs) {i:Nat} {g:List It} (hi:gs[i]? = some g):∃ s,ss[i]? = some s∧s.n=g.length∧Sq fT w s.v g:=by
 have hlt:=(List.getElem?_eq_some_iff.1 hi).1
 have e1:ss[i]? = some (ss[i]'(by rw [h.1];exact hlt)):=List.getElem?_eq_getElem _
 have hs:=h.2 i _ g e1 hi
 refine ⟨_,e1,?_,hs⟩
 obtain ⟨a',c',e,-⟩:=hs
 unfold Sv.v at e
 simp only [Value.slice.injEq] at e
 exact e.2.1
theorem sv_cell {w:World} {a:Option Addr} {n cap i:Nat} {xs:List Sv} {x:Sv} (h:Sq fS w (.slice a n cap) xs) (hi:xs[i]? = some x) :
  ∃ g off,a=some ⟨g,off,none⟩∧w.cell? ⟨g,off+i,none⟩=some (.slice x.a x.n x.c):=by
 obtain ⟨-,g,off,rfl,hc⟩:=Sq.cell fS_lays h hi
 exact ⟨g,off,rfl,by have:=hc 0 x.v rfl;rw [Nat.mul_one,Nat.add_zero] at this;exact this⟩
theorem minsT_length (least:Int) (gs:List (List It)):(minsT least gs).length=gs.length:=by
 cases gs <;> simp [minsT]
theorem minsT_at (least:Int) {gs:List (List It)} {i:Nat} {g:List It} (hi:gs[i]? = some g):(minsT least gs)[i]? = some (if i=0 then least else (g.head?.map It.k).getD 0):=by
 cases gs with
 | nil=>simp at hi
 | cons y r =>
  cases i with
  | zero=>rfl
  | succ i =>
   rw [List.getElem?_cons_succ] at hi
   show (least :: r.map _)[i+1]? = _
   rw [List.getElem?_cons_succ,List.getElem?_map,hi];rfl
def MinAt (w:World) (ms:List Int) (u x:Value) (wr:World):Prop:=∃ i,i≤ms.length∧x = .int .i64 (i:Nat)∧wr.ownsRow w.heap.size 3 1 u (ms.take i).length ((ms.take i).flatMap fI)∧Fr [] w wr
theorem mins_any (least:Int) (gs:List (List It)) (ss:List Sv) (u:Value) (w:World) (hl:gs.length≤1000) (h:Sq fS w u ss) (hg:Gs w ss gs) :
  Calls Tryz.prog 228 #[.int .i64 least,u] w fun e w'=>(∃ r,e = .returned r∧w'.ownsRow w.heap.size 3 1 r (minsT least gs).length ((minsT least gs).flatMap fI))∧Fr [] w w':=by
 obtain ⟨av,cv,rfl,hcv,hmv,-⟩:=id h
 have hml:=minsT_length least gs
 have hsl:=hg.1
 rw [hsl] at h hcv ⊢
 have HAT:=Lib.hid (fun i g=>@minsT_at least gs i g)
 generalize hms:minsT least gs=ms at *
 have HMS:=Lib.hid hms
 rw [← hml] at h hcv ⊢
 have hmk:ms.length≤1000:=by omega
 have HML:=Lib.hid hml
 clear hms hml hsl
 go_enter Tryz.func228,Tryz.ntmps228
 go_wp2_with fail
 go_loopw [5,6] (MinAt w ms) (fun _ x _=>ms.length - (intOf x).toNat)
 case atStart=>exact ⟨0,by omega,rfl,⟨rfl,.inl ⟨rfl,rfl⟩⟩,Fr.refl _ _⟩
 case round =>
  obtain ⟨i,hi,rfl,hr,F⟩:=hrel
  by_cases hlt:i<ms.length
  ·obtain ⟨g,hgi⟩:∃ g,gs[i]? = some g:=⟨gs[i]'(by have:=HML.out;omega),List.getElem?_eq_getElem _⟩
   have hm:=HAT.out i g hgi
   obtain ⟨s,hs1,hs2,hs3⟩:=(hg.up F).one hgi
   obtain ⟨gb,ob,rfl,c0⟩:=sv_cell (h.up F) hs1
   rw [hs2] at c0
   have hs3':Sq fT wr (.slice s.a g.length s.c) g:=by rw [← hs2];exact hs3
   obtain ⟨ao,co,rfl,hco,hcm,-⟩:=id (Sq.own (f:=fI) hr)
   have hlen:(ms.take i).length=i:=by rw [List.length_take];omega
   have hnx:∀ m,ms[i]? = some m→ms.take (i+1)=ms.take i++[m]:=fun m hm=>by rw [List.take_add_one,hm];rfl
   generalize ms.take i=out at *
   have HL:=Lib.hid hlen
   clear hlen hs3
   by_cases h0:i=0
   ·subst h0
    rw [if_pos rfl] at hm
    have hm:ms[0]? = some (least):=hm
    have HNX:=Lib.hid (hnx _ hm)
    have F12:=(Fr.refl [] wr).alloc (.cells #[.int .i64 (least)] 3)
    have B12:=Go.heap_alloc_new wr (.cells #[.int .i64 (least)] 3)
    have r12:=row_keeps hr F12
    have HG:=Lib.hid (F.trans F12)
    clear F12 hnx hm
    go_wp2_with (at_builtin;refine wpList_appSq fI_lays rfl _ _ 25 rfl Tryz.underlying25 intI rfl (B:=w.heap.size) _ out rfl r12 _ [least] rfl (Sq.block B12 rfl rfl (Nat.le_refl _) (by simp [maxLen])) (by have:=HL.out;have:=HML.out;simp;omega) (by decide) HG.out.size ?_;intro a21 c21 w21 r21 f21)
    have HR:=Lib.hid (show w21.ownsRow w.heap.size 3 1 (.slice a21 (out.length+1) c21) (out++[least]).length ((out++[least]).flatMap fI) by rw [show (Value.slice a21 (out++[least]).length c21)=Value.slice a21 (out.length+1) c21 by simp] at r21;exact r21)
    have HG2:=Lib.hid (HG.out.own f21 (row_base r12))
    clear r21 f21 r12 B12
    go_wp2_with fail
    go_roundw
    case rel=>exact ⟨0+1,by omega,by go_num,by rw [HNX.out];exact HR.out,HG2.out⟩
    case measure=>simp [intOf];omega
   ·rw [if_neg h0] at hm
    cases g with
    | nil =>
     have g1:(((i:Nat):Int) == 0)=false:=by simp;omega
     have hm:ms[i]? = some ((0:Int)):=hm
     have HNX:=Lib.hid (hnx _ hm)
     have F12:=(Fr.refl [] wr).alloc (.cells #[.int .i64 ((0:Int))] 3)
     have B12:=Go.heap_alloc_new wr (.cells #[.int .i64 ((0:Int))] 3)
     have r12:=row_keeps hr F12
     have HG:=Lib.hid (F.trans F12)
     clear F12 hnx hm
     go_wp2_with (at_builtin;refine wpList_appSq fI_lays rfl _ _ 25 rfl Tryz.underlying25 intI rfl (B:=w.heap.size) _ out rfl r12 _ [(0:Int)] rfl (Sq.block B12 rfl rfl (Nat.le_refl _) (by simp [maxLen])) (by have:=HL.out;have:=HML.out;simp;omega) (by decide) HG.out.size ?_;intro a21 c21 w21 r21 f21)
     have HR:=Lib.hid (show w21.ownsRow w.heap.size 3 1 (.slice a21 (out.length+1) c21) (out++[(0:Int)]).length ((out++[(0:Int)]).flatMap fI) by rw [show (Value.slice a21 (out++[(0:Int)]).length c21)=Value.slice a21 (out.length+1) c21 by simp] at r21;exact r21)
     have HG2:=Lib.hid (HG.out.own f21 (row_base r12))
     clear r21 f21 r12 B12
     go_wp2_with fail
     go_roundw
     case rel=>exact ⟨i+1,by omega,by go_num,by rw [HNX.out];exact HR.out,HG2.out⟩
     case measure=>simp [intOf];omega
    | cons z r =>
     have g1:(((i:Nat):Int) == 0)=false:=by simp;omega
     obtain ⟨gz,oz,ez,z0,-,-⟩:=it_cells hs3' (i:=0) (x:=z) rfl
     rw [ez] at c0
     simp only [Nat.zero_mul,Nat.add_zero] at z0
     have hm:ms[i]? = some (z.k):=hm
     have HNX:=Lib.hid (hnx _ hm)
     have F12:=(Fr.refl [] wr).alloc (.cells #[.int .i64 (z.k)] 3)
     have B12:=Go.heap_alloc_new wr (.cells #[.int .i64 (z.k)] 3)
     have r12:=row_keeps hr F12
     have HG:=Lib.hid (F.trans F12)
     clear F12 hnx hm
     go_wp2_with (at_builtin;refine wpList_appSq fI_lays rfl _ _ 25 rfl Tryz.underlying25 intI rfl (B:=w.heap.size) _ out rfl r12 _ [z.k] rfl (Sq.block B12 rfl rfl (Nat.le_refl _) (by simp [maxLen])) (by have:=HL.out;have:=HML.out;simp;omega) (by decide) HG.out.size ?_;intro a21 c21 w21 r21 f21)
     have HR:=Lib.hid (show w21.ownsRow w.heap.size 3 1 (.slice a21 (out.length+1) c21) (out++[z.k]).length ((out++[z.k]).flatMap fI) by rw [show (Value.slice a21 (out++[z.k]).length c21)=Value.slice a21 (out.length+1) c21 by simp] at r21;exact r21)
     have HG2:=Lib.hid (HG.out.own f21 (row_base r12))
     clear r21 f21 r12 B12
     go_wp2_with fail
     go_roundw
     case rel=>exact ⟨i+1,by omega,by go_num,by rw [HNX.out];exact HR.out,HG2.out⟩
     case measure=>simp [intOf];omega
  ·obtain rfl:i=ms.length:=by omega
   rw [List.take_length] at hr
   have HR:=Lib.hid hr
   obtain ⟨ao,co,rfl,-,-⟩:=row_cell hr
   clear hr
   go_wp2_with fail
   go_ret
   exact ⟨⟨_,rfl,HR.out⟩,F⟩
end Go.Proofs.YtilipdnchflkhaaGreatDoor.Mx
namespace Go.Proofs.YtilipdnchflkhaaGreatDoor.Mx
open Go.RowKit Go.Proofs.YtilipdnchflkhaaGreatDoor.Ar Go.Proofs.YtilipdnchflkhaaGreatDoor.Ref
structure Lok where
 c:Cf
 chunk:Int
 lo:Int
 hi:Int
 most:Int
 line:Int
 i:Int
 count:Int
 s:Int
 k:Int
 g:Int
 lv:Value
 l:List It
def Lok.cells (x:Lok):Array Value:=#[.int .i64 x.c.t,.int .i64 x.c.c,.int .i64 x.c.wd,.int .i64 x.c.v,.int .i64 x.chunk,.int .i64 x.lo,.int .i64 x.hi,.int .i64 x.most,.int .i64 x.line,.int .i64 x.i,.int .i64 x.count,.int .i64 x.s,.int .i64 x.k,.int .i64 x.g,x.lv]
def LokAt (w:World) (b:Nat) (x:Lok):Prop:=Ob w b 54 x.cells
theorem lok_cells {w:World} {b:Nat} {x:Lok} (h:LokAt w b x):w.cell? ⟨b,0,none⟩=some (.int .i64 x.c.t)∧w.cell? ⟨b,1,none⟩=some (.int .i64 x.c.c)∧w.cell? ⟨b,2,none⟩=some (.int .i64 x.c.wd)∧w.cell? ⟨b,3,none⟩=some (.int .i64 x.c.v)∧w.cell? ⟨b,4,none⟩=some (.int .i64 x.chunk)∧w.cell? ⟨b,5,none⟩=some (.int .i64 x.lo)∧w.cell? ⟨b,6,none⟩=some (.int .i64 x.hi)∧w.cell? ⟨b,7,none⟩=some (.int .i64 x.most)∧w.cell? ⟨b,8,none⟩=some (.int .i64 x.line)∧w.cell? ⟨b,9,none⟩=some (.int .i64 x.i)∧w.cell? ⟨b,10,none⟩=some (.int .i64 x.count)∧w.cell? ⟨b,11,none⟩=some (.int .i64 x.s)∧w.cell? ⟨b,12,none⟩=some (.int .i64 x.k)∧w.cell? ⟨b,13,none⟩=some (.int .i64 x.g)∧w.cell? ⟨b,14,none⟩=some (x.lv) :=
 ⟨h.cell rfl,h.cell rfl,h.cell rfl,h.cell rfl,h.cell rfl,h.cell rfl,h.cell rfl,h.cell rfl,h.cell rfl,h.cell rfl,h.cell rfl,h.cell rfl,h.cell rfl,h.cell rfl,h.cell rfl⟩
theorem cells4x {w:World} {b:Nat} {t:TypeId} {x0 x1 x2 x3:Value} (h:w.heap[b]? = some (.cells #[x0,x1,x2,x3] t (0,0))) :
  w.cell? ⟨b,0,none⟩=some x0∧w.cell? ⟨b,1,none⟩=some x1∧w.cell? ⟨b,2,none⟩=some x2∧w.cell? ⟨b,3,none⟩=some x3 :=
 ⟨by rw [cell_of_row _ _ _ _ _ _ h];rfl,by rw [cell_of_row _ _ _ _ _ _ h];rfl,by rw [cell_of_row _ _ _ _ _ _ h];rfl,by rw [cell_of_row _ _ _ _ _ _ h];rfl⟩
def Lok.new (c:Cf) (chunk lo hi most:Int):Lok:=⟨c,chunk,lo,hi,most,1,0,0,0,0,0,.slice none 0 0,[]⟩
def Lok.on (x:Lok):Lok:=if x.count≤x.i+1 then { x with i:=x.i+1,line:=0 } else { x with i:=x.i+1,line:=2 }
def itemN (l:List It) (key:Int):Option Nat:=l.findIdx? (fun y=>y.k == key)
def itemI (l:List It) (key:Int):Int:=match itemN l key with | some i=>(i:Int) | none=>-1
def insK:List It→It→List It
 | [],x=>[x]
 | y :: r,x=>if y.k<x.k then y :: insK r x else x :: y :: r
def putK (l:List It) (x:It):List It:=match itemN l x.k with | some i=>l.set i x | none=>insK l x
theorem insK_at {l:List It} {x:It} {k:Nat} (hk:k≤l.length) (h1:∀ i y,i<k→l[i]? = some y→y.k<x.k) (h2:∀ y,l[k]? = some y→¬ y.k<x.k):insK l x=l.take k++[x]++l.drop k:=by
 induction l generalizing k with
 | nil=>simp at hk;subst hk;rfl
 | cons y r ih =>
  unfold insK
  cases k with
  | zero=>rw [if_neg (h2 y rfl)];rfl
  | succ k =>
   rw [if_pos (h1 0 y (by omega) rfl),ih (k:=k) (by simpa using hk) (fun i z hi hz=>h1 (i+1) z (by omega) hz) (fun z hz=>h2 z (by simpa using hz))]
   simp
theorem itemN_some {l:List It} {key:Int} {i:Nat} {y:It} (hy:l[i]? = some y) (hk:y.k=key) (h:∀ j z,j<i→l[j]? = some z→z.k≠key):itemN l key=some i:=by
 unfold itemN
 have hlt:=(List.getElem?_eq_some_iff.1 hy).1
 rw [List.findIdx?_eq_some_iff_getElem]
 refine ⟨hlt,?_,fun j hj=>?_⟩
 ·have:l[i]=y:=(List.getElem?_eq_some_iff.1 hy).2
  rw [this];simpa using hk
 ·have:=h j l[j] hj (List.getElem?_eq_getElem (by omega))
  simpa using this
theorem itemN_none {l:List It} {key:Int} (h:∀ (j:Nat) (z:It),l[j]? = some z→z.k≠key):itemN l key=none:=by
 unfold itemN
 rw [List.findIdx?_eq_none_iff]
 intro z hz
 obtain ⟨j,hj⟩:=List.mem_iff_getElem?.1 hz
 simpa using h j z hj
theorem newLook_any (c:Cf) (chunk lo hi most:Int) (w:World):Calls Tryz.prog 19 #[c.val,.int .i64 chunk,.int .i64 lo,.int .i64 hi,.int .i64 most] w fun e w'=>∃ b,e = .returned (.pointer (some ⟨b,0,none⟩))∧w.heap.size≤b∧LokAt w' b (Lok.new c chunk lo hi most)∧Fr [] w w':=by
 unfold Cf.val
 have F0:=(Fr.refl [] w).alloc (.cells #[.int .i64 c.t,.int .i64 c.c,.int .i64 c.wd,.int .i64 c.v] 23)
 obtain ⟨c0,c1,c2,c3⟩:=cells4x (Go.heap_alloc_new w (.cells #[.int .i64 c.t,.int .i64 c.c,.int .i64 c.wd,.int .i64 c.v] 23))
 go_enter Tryz.func19,Tryz.ntmps19
 go_wp2
 go_ret
 exact ⟨_,rfl,by omega,Ob.newAt (sizeA _ _) _ _,F0.alloc _⟩
theorem look_on (x:Lok) (hi:-1≤x.i∧x.i≤100) (b:Nat) (w:World) (h:LokAt w b x):Calls Tryz.prog 72 #[.pointer (some ⟨b,0,none⟩)] w fun e w'=>e = .returned (.tuple #[])∧LokAt w' b x.on∧Fr [b] w w':=by
 generalize hy:x.on=y
 have HY:=Lib.hid hy
 clear hy
 obtain ⟨c0,c1,c2,c3,c4,c5,c6,c7,c8,c9,c10,c11,c12,c13,c14⟩:=lok_cells h
 have z:=h.frozen
 go_enter Tryz.func72,Tryz.ntmps72
 go_wp2_with fail
 have h1:LokAt _ b { x with i:=x.i+1,line:=2 }:=Ob.set (Ob.set h (i:=9) (.int .i64 (x.i+1))) (i:=8) (.int .i64 2)
 have D1:Fr [b] w ((w.setCell ⟨b,9,none⟩ (.int .i64 (x.i+1))).setCell ⟨b,8,none⟩ (.int .i64 2)):=(Fr.setCell _ (by simp)).setCell' _ (by simp)
 clear c0 c1 c2 c3 c4 c5 c6 c7 c8 c9 c10 c11 c12 c13 c14 z
 generalize ((w.setCell ⟨b,9,none⟩ (.int .i64 (x.i+1))).setCell ⟨b,8,none⟩ (.int .i64 2))=w1 at *
 obtain ⟨-,-,-,-,-,-,-,-,-,c9,c10,-,-,-,-⟩:=lok_cells h1
 have k9:=In.cell c9
 have k10:=In.cell c10
 clear c9 c10
 refine wi ?_
 repeat (go_big_quiet_step (fail))
 refine wpQuiet_nil ?_
 intro w2 F2
 have h2:=Ob.up h1 F2
 have D2:=D1.then F2
 clear h1 D1 F2 k9 k10
 obtain ⟨c0,c1,c2,c3,c4,c5,c6,c7,c8,c9,c10,c11,c12,c13,c14⟩:=lok_cells h2
 have z:=h2.frozen
 by_cases hv:x.count≤x.i+1
 ·have hn:y = { x with i:=x.i+1,line:=0 }:=by rw [← HY.out];unfold Lok.on;simp [hv]
  subst hn
  have g:decide (x.i+1≥x.count)=true:=by simpa using hv
  go_wp2_with fail
  go_end0
  exact ⟨rfl,Ob.set h2 (i:=8) (.int .i64 0),D2.trans (Fr.setCell _ (by simp))⟩
 ·have hn:y = { x with i:=x.i+1,line:=2 }:=by rw [← HY.out];unfold Lok.on;simp [hv]
  subst hn
  have g:decide (x.i+1≥x.count)=false:=by simpa using hv
  go_wp2_with fail
  go_end0
  exact ⟨rfl,h2,D2⟩
def ItAtK (l:List It) (key:Int) (u:Value) (w wr:World):Prop:=∃ k,k≤l.length∧u = .int .i64 (k:Nat)∧wr=w∧∀ j z,j<k→l[j]? = some z→z.k≠key
theorem item_any (x:Lok) (key:Int) (b:Nat) (w:World) (hl:x.l.length≤1000) (h:LokAt w b x) (hs:Sq fT w x.lv x.l) :
  Calls Tryz.prog 119 #[.pointer (some ⟨b,0,none⟩),.int .i64 key] w fun e w'=>e = .returned (.int .i64 (itemI x.l key))∧w=w':=by
 obtain ⟨a,cap,hv,hcap,hmax,-⟩:=id hs
 obtain ⟨-,-,-,-,-,-,-,-,-,-,-,-,-,-,c14⟩:=lok_cells h
 rw [hv] at c14 hs
 clear hv
 go_enter Tryz.func119,Tryz.ntmps119
 go_wp2_with fail
 go_loopw [5] (fun u wr=>ItAtK x.l key u w wr) (fun u _=>x.l.length - (intOf u).toNat)
 case atStart=>exact ⟨0,Nat.zero_le _,rfl,rfl,by omega⟩
 case round =>
  obtain ⟨k,hk,rfl,rfl,h1⟩:=hrel
  by_cases hlt:k<x.l.length
  ·obtain ⟨y,hy⟩:∃ y,x.l[k]? = some y:=⟨x.l[k],List.getElem?_eq_getElem hlt⟩
   obtain ⟨g,off,rfl,d0,-,-⟩:=it_cells hs hy
   by_cases hyk:y.k=key
   ·have HR:=Lib.hid (itemN_some hy hyk h1)
    have g1:(y.k == key)=true:=by simpa using hyk
    clear hyk hy h1
    go_wp2_with fail
    go_ret
    exact ret_int (by unfold itemI;rw [HR.out])
   ·have g1:(y.k == key)=false:=by simpa using hyk
    have HY:=Lib.hid (And.intro hy hyk)
    clear hyk hy
    go_wp2_with fail
    go_roundw
    case rel=>exact ⟨k+1,by omega,by go_num,rfl,fun j z hj hz=>by
     by_cases e:j=k
     ·subst e;rw [HY.out.1] at hz;cases hz;exact HY.out.2
     ·exact h1 j z (by omega) hz⟩
    case measure=>simp [intOf];omega
  ·obtain rfl:k=x.l.length:=by omega
   have HR:=Lib.hid (itemN_none (fun j z hz=>h1 j z (List.getElem?_eq_some_iff.1 hz).1 hz))
   clear h1
   go_wp2_with fail
   go_ret
   exact ret_int (by unfold itemI;rw [HR.out])
def InsAt (l:List It) (key:Int) (u:Value) (w wr:World):Prop:=∃ k,k≤l.length∧u = .int .i64 (k:Nat)∧Fr [] w wr∧∀ i y,i<k→l[i]? = some y→y.k<key
theorem putK_none {l:List It} {x:It} (h:itemN l x.k=none):putK l x=insK l x:=by unfold putK;rw [h]
theorem putK_some {l:List It} {x:It} {i:Nat} (h:itemN l x.k=some i):putK l x=l.set i x:=by unfold putK;rw [h]
theorem put_none (x:Lok) (it:It) (b:Nat) (w:World) (hN:itemN x.l it.k=none) (hl:x.l.length≤1000) (h:LokAt w b x) (hs:Sq fT w x.lv x.l) (hb:b∉x.lv.ownBlock.toList) :
  Calls Tryz.prog 75 #[.pointer (some ⟨b,0,none⟩),.agg #[.int .i64 it.k,.int .i64 it.v,.int .i64 it.d]] w fun e w'=>e = .returned (.tuple #[])∧(∃ lv',LokAt w' b { x with l:=insK x.l it,lv:=lv' } ∧ Sq fT w' lv' (insK x.l it)∧∀ g,g∈lv'.ownBlock.toList→w.heap.size≤g)∧Fr [b] w w':=by
 obtain ⟨a,cap,hlv,hcap,hmax,-⟩:=id hs
 have F0:=(Fr.refl [] w).alloc (.cells #[.int .i64 it.k,.int .i64 it.v,.int .i64 it.d] 60)
 have ob:=Ob.new w 60 #[.int .i64 it.k,.int .i64 it.v,.int .i64 it.d]
 have hi:=item_any x it.k b _ hl (h.up F0) (hs.up F0)
 rw [show itemI x.l it.k = -1 by unfold itemI;rw [hN]] at hi
 have HI:=Lib.hid hi
 clear hi
 go_enter Tryz.func75,Tryz.ntmps75
 go_wp2_with fail
 refine HI.out.mono ?_;rintro e _ ⟨rfl,rfl⟩
 clear HI
 replace h:=h.up F0
 replace hs:=hs.up F0
 have hbl:=h.lt
 generalize (w.alloc (.cells #[.int .i64 it.k,.int .i64 it.v,.int .i64 it.d] 60))=w1 at *
 have hc14:=(lok_cells h).2.2.2.2.2.2.2.2.2.2.2.2.2.2
 rw [hlv] at hs hb hc14
 go_wp2_with fail
 go_loopw [5] (fun u wr=>InsAt x.l it.k u w1 wr) (fun u _=>x.l.length - (intOf u).toNat)
 case atStart=>exact ⟨0,Nat.zero_le _,rfl,Fr.refl _ _,by omega⟩
 case round =>
  obtain ⟨k,hk,rfl,FL,h1⟩:=hrel
  have ob:=ob.up FL
  have h:=h.up FL
  have hs:=hs.up FL
  have F0:=F0.trans FL
  have hbl:=h.lt
  have hc14:=FL.cell hc14 (by simp)
  by_cases hlt:k<x.l.length
  ·obtain ⟨y,hy⟩:∃ y,x.l[k]? = some y:=⟨x.l[k],List.getElem?_eq_getElem hlt⟩
   obtain ⟨g,off,rfl,d0,d1,d2⟩:=it_cells hs hy
   have HYY:=Lib.hid hy
   clear hy
   have k14:=In.cell hc14
   have q0:=In.cell (ob.cell (i:=0) rfl)
   have dd0:=In.cell d0
   clear d0 d1 d2
   by_cases hyk:y.k<it.k
   ·have g1:decide (y.k<it.k)=true:=by simpa using hyk
    have gk:decide ((k:Int)<x.l.length)=true:=by simp;omega
    clear hc14
    go_wp2_with fail
    refine wi ?_
    repeat (go_big_quiet_step (fail))
    refine wpQuiet_nil ?_
    intro w5 F5
    clear k14 q0 dd0
    go_wp2_with fail
    exact ⟨⟨k+1,by omega,by go_num,FL.trans F5,fun i z hi hz=>by
     by_cases e:i=k
     ·subst e;rw [HYY.out] at hz;cases hz;exact hyk
     ·exact h1 i z (by omega) hz⟩,by simp [intOf];omega⟩
   have g1:decide (y.k<it.k)=false:=by simpa using hyk
   have gk:decide ((k:Int)<x.l.length)=true:=by simp;omega
   have hn:=Lib.hid (insK_at (x:=it) (by omega) h1 (fun z hz=>by rw [HYY.out] at hz;cases hz;exact hyk))
   clear hc14
   go_wp2_with fail
   refine wi ?_
   repeat (go_big_quiet_step (fail))
   refine wpQuiet_nil ?_
   intro w5 F5
   clear k14 q0 dd0 g1 gk
   replace h:=h.up F5
   replace hs:=hs.up F5
   replace ob:=ob.up F5
   replace F0:=F0.trans F5
   have hbl:=h.lt
   have hc14:=(lok_cells h).2.2.2.2.2.2.2.2.2.2.2.2.2.2
   rw [hlv] at hc14
   have c14:=hc14
   clear hc14
   go_wp2_with fail
   have HS:=Lib.hid hs
   clear c14 hs
   refine wp_region_free (by kernel_rfl) ?_
   refine any_envL [] w5 #[true,true,true,true,true,true,true,true,true,true,true,true,true,true,true,true,true,true,false,false,false] 18 3 rfl ?_
   refine lp [true,true,true,true,true,true,true,false,true,false,false,true,true,true,true,true,true,false,false,false,false] 4 ((Fr.refl _ w5).drew) ?_
   apply Exists.intro
   refine ⟨fun wf Ff=>?_,?_⟩
   ·obtain ⟨-,-,-,-,-,-,-,-,-,-,-,-,-,-,c14⟩:=lok_cells (h.up Ff)
    have k14:=In.cell c14
    have q0:=In.cell ((ob.up Ff).cell (i:=0) rfl)
    have q1:=In.cell ((ob.up Ff).cell (i:=1) rfl)
    have q2:=In.cell ((ob.up Ff).cell (i:=2) rfl)
    clear c14
    simp only [sel]
    repeat (go_big_quiet_step (fail))
    exact wpQuiet_nil rfl
   have HS1:=Lib.hid (Sq.take fT_lays HS.out k (by omega))
   have HS2:=Lib.hid (Sq.drop fT_lays HS.out k (by omega))
   have HT:=Lib.hid (show (x.l.take k).length≤1000∧(x.l.drop k).length≤1000∧insK x.l it=x.l.take k++[it]++x.l.drop k from ⟨by simp;omega,by simp;omega,hn.out⟩)
   generalize x.l.take k=T1 at HS1 HT
   generalize x.l.drop k=T2 at HS2 HT
   refine envL_ready [7,9] (by kernel_rfl) (by simp) (fun w10 F10 i hi o ho=>?_)
   have G:=(Fr.refl [] w5).drew.trans F10
   clear F10
   simp only [List.mem_cons,List.not_mem_nil,or_false] at hi
   rcases hi with rfl | rfl
   focus
    obtain rfl:=Option.some.inj ho
    go_wp2_with (at_builtin;refine wpList_appSq fT_lays rfl _ _ 51 rfl Tryz.underlying51 itI rfl (B:=w5.heap.size) (.slice none 0 0) [] rfl ⟨rfl,.inl ⟨rfl,rfl⟩⟩ _ T1 rfl (HS1.out.up G) (by have:=HT.out;simp;omega) (by decide) G.size ?_;intro a21 c21 w21 r21 f21)
    rw [List.nil_append] at r21
    replace G:=G.trans f21
    clear f21
    refine nx_normal ⟨G,?_⟩
    refine lo 9 (fun w11 F11=>?_)
    have r11:=row_keeps r21 F11
    replace G:=G.trans F11
    clear r21 F11
    go_wp2_with fail
    have F12:=(Fr.refl [] w11).alloc (.cells #[.int .i64 it.k,.int .i64 it.v,.int .i64 it.d] 60)
    have B12:=Go.heap_alloc_new w11 (.cells #[.int .i64 it.k,.int .i64 it.v,.int .i64 it.d] 60)
    have r12:=row_keeps r11 F12
    replace G:=G.trans F12
    clear r11 F12 ho
    refine nx_normal ⟨G,?_⟩
    refine lo 10 (fun w13 F13=>?_)
    have r22:=row_keeps r12 F13
    have B22:=F13.heap B12 (by simp)
    replace G:=G.trans F13
    clear r12 B12 F13
   rotate_left
   focus
    obtain rfl:=Option.some.inj ho
    go_wp2_with fail
    have F12:=(Fr.refl [] w10).alloc (.cells #[.int .i64 it.k,.int .i64 it.v,.int .i64 it.d] 60)
    have B12:=Go.heap_alloc_new w10 (.cells #[.int .i64 it.k,.int .i64 it.v,.int .i64 it.d] 60)
    replace G:=G.trans F12
    clear F12 ho
    refine nx_normal ⟨G,?_⟩
    refine lo 7 (fun w11 F11=>?_)
    have B13:=F11.heap B12 (by simp)
    replace G:=G.trans F11
    clear B12 F11
    go_wp2_with (at_builtin;refine wpList_appSq fT_lays rfl _ _ 51 rfl Tryz.underlying51 itI rfl (B:=w5.heap.size) (.slice none 0 0) [] rfl ⟨rfl,.inl ⟨rfl,rfl⟩⟩ _ T1 rfl (HS1.out.up G) (by have:=HT.out;simp;omega) (by decide) G.size ?_;intro a21 c21 w21 r21 f21)
    rw [List.nil_append] at r21
    have B21:=Fr.heap f21 B13 (by simp [Value.ownBlock])
    replace G:=G.trans f21
    clear f21 B13
    refine nx_normal ⟨G,?_⟩
    refine lo 10 (fun w13 F13=>?_)
    have r22:=row_keeps r21 F13
    have B22:=F13.heap B21 (by simp)
    replace G:=G.trans F13
    clear r21 B21 F13
   rotate_left
   all_goals
    go_wp2_with (at_builtin;refine wpList_appSq fT_lays rfl _ _ 51 rfl Tryz.underlying51 itI rfl (B:=w5.heap.size) _ T1 rfl r22 _ [it] rfl (Sq.block B22 rfl rfl (Nat.le_refl _) (by simp [maxLen])) (by have:=HT.out;simp;omega) (by decide) G.size ?_;intro a23 c23 w23 r23 f23;generalize hT3:T1++[it]=T3 at r23 ⊢)
    replace G:=G.own f23 (row_base r22)
    clear f23 r22 B22
    refine nx_normal ⟨G,?_⟩
    refine lo 17 (fun w14 F14=>?_)
    have r24:=row_keeps r23 F14
    replace G:=G.trans F14
    clear r23 F14
    go_wp2_with (at_builtin;refine wpList_appSq fT_lays rfl _ _ 51 rfl Tryz.underlying51 itI rfl (B:=w5.heap.size) _ T3 rfl r24 _ T2 rfl (HS2.out.up G) (by have:=HT.out;rw [← hT3];simp;omega) (by decide) G.size ?_;intro a25 c25 w25 r25 f25;generalize hT4:T3++T2=T4 at r25 ⊢)
    replace G:=G.own f25 (row_base r24)
    clear f25 r24
    refine nx_normal ⟨G,?_⟩
    refine envL_tail (k:=18) rfl (by kernel_rfl) (fun w15 F15=>?_)
    have r26:=row_keeps r25 F15
    replace G:=G.trans F15
    clear r25 F15
    have h26:=h.up G
    have z26:=h26.frozen
    obtain ⟨-,-,-,-,-,-,-,-,-,-,-,-,-,-,c14⟩:=lok_cells h26
    go_wp2_with fail
    go_end0
    have hlt26:b<w5.heap.size:=h.lt
    have e26:insK x.l it=T4:=by rw [HT.out.2.2,hT3,hT4]
    rw [← e26] at r26 ⊢
    refine ⟨rfl,⟨_,Ob.set h26 (i:=14) _,(Sq.own r26).kept (Fr.setCell (S:=[b]) _ (by simp)) (fun g hg hi=>?_),fun g hg=>Nat.le_trans F0.size (row_base r26 g hg)⟩,(F0.mono).trans ((G.mono).trans (Fr.setCell _ (by simp)))⟩
    have:=row_base r26 g hg
    simp at hi
    omega
  ·obtain rfl:k=x.l.length:=by omega
   have gk:decide (((x.l.length:Nat):Int)<x.l.length)=false:=by simp
   have hn:=Lib.hid (insK_at (x:=it) (Nat.le_refl _) h1 (fun z hz=>by simp at hz))
   have k14:=In.cell hc14
   clear hc14
   go_wp2_with fail
   refine wi ?_
   repeat (go_big_quiet_step (fail))
   refine wpQuiet_nil ?_
   intro w5 F5
   clear k14 gk
   replace h:=h.up F5
   replace hs:=hs.up F5
   replace ob:=ob.up F5
   replace F0:=F0.trans F5
   have hbl:=h.lt
   have hc14:=(lok_cells h).2.2.2.2.2.2.2.2.2.2.2.2.2.2
   rw [hlv] at hc14
   have c14:=hc14
   clear hc14
   go_wp2_with fail
   have HS:=Lib.hid hs
   clear c14 hs
   refine wp_region_free (by kernel_rfl) ?_
   refine any_envL [] w5 #[true,true,true,true,true,true,true,true,true,true,true,true,true,true,true,true,true,true,false,false,false] 18 3 rfl ?_
   refine lp [true,true,true,true,true,true,true,false,true,false,false,true,true,true,true,true,true,false,false,false,false] 4 ((Fr.refl _ w5).drew) ?_
   apply Exists.intro
   refine ⟨fun wf Ff=>?_,?_⟩
   ·obtain ⟨-,-,-,-,-,-,-,-,-,-,-,-,-,-,c14⟩:=lok_cells (h.up Ff)
    have k14:=In.cell c14
    have q0:=In.cell ((ob.up Ff).cell (i:=0) rfl)
    have q1:=In.cell ((ob.up Ff).cell (i:=1) rfl)
    have q2:=In.cell ((ob.up Ff).cell (i:=2) rfl)
    clear c14
    simp only [sel]
    repeat (go_big_quiet_step (fail))
    exact wpQuiet_nil rfl
   have HS1:=HS
   rw [List.take_length,List.drop_length] at hn
   have HT:=Lib.hid (show x.l.length≤1000∧([]:List It).length≤1000∧insK x.l it=x.l++[it]++[] from ⟨hl,by simp,hn.out⟩)
   have hcm:cap - x.l.length≤maxLen:=by omega
   generalize (if cap=x.l.length then a else Option.map (fun y=>y.add (x.l.length * 3)) a)=a2
   generalize cap - x.l.length=c2 at hcm ⊢
   have HS2:=Lib.hid (Sq.empty (f:=fT) w5 a2 hcm)
   refine envL_ready [7,9] (by kernel_rfl) (by simp) (fun w10 F10 i hi o ho=>?_)
   have G:=(Fr.refl [] w5).drew.trans F10
   clear F10
   simp only [List.mem_cons,List.not_mem_nil,or_false] at hi
   rcases hi with rfl | rfl
   focus
    obtain rfl:=Option.some.inj ho
    go_wp2_with (at_builtin;refine wpList_appSq fT_lays rfl _ _ 51 rfl Tryz.underlying51 itI rfl (B:=w5.heap.size) (.slice none 0 0) [] rfl ⟨rfl,.inl ⟨rfl,rfl⟩⟩ _ x.l rfl (HS1.out.up G) (by have:=HT.out;simp;omega) (by decide) G.size ?_;intro a21 c21 w21 r21 f21)
    rw [List.nil_append] at r21
    replace G:=G.trans f21
    clear f21
    refine nx_normal ⟨G,?_⟩
    refine lo 9 (fun w11 F11=>?_)
    have r11:=row_keeps r21 F11
    replace G:=G.trans F11
    clear r21 F11
    go_wp2_with fail
    have F12:=(Fr.refl [] w11).alloc (.cells #[.int .i64 it.k,.int .i64 it.v,.int .i64 it.d] 60)
    have B12:=Go.heap_alloc_new w11 (.cells #[.int .i64 it.k,.int .i64 it.v,.int .i64 it.d] 60)
    have r12:=row_keeps r11 F12
    replace G:=G.trans F12
    clear r11 F12 ho
    refine nx_normal ⟨G,?_⟩
    refine lo 10 (fun w13 F13=>?_)
    have r22:=row_keeps r12 F13
    have B22:=F13.heap B12 (by simp)
    replace G:=G.trans F13
    clear r12 B12 F13
   rotate_left
   focus
    obtain rfl:=Option.some.inj ho
    go_wp2_with fail
    have F12:=(Fr.refl [] w10).alloc (.cells #[.int .i64 it.k,.int .i64 it.v,.int .i64 it.d] 60)
    have B12:=Go.heap_alloc_new w10 (.cells #[.int .i64 it.k,.int .i64 it.v,.int .i64 it.d] 60)
    replace G:=G.trans F12
    clear F12 ho
    refine nx_normal ⟨G,?_⟩
    refine lo 7 (fun w11 F11=>?_)
    have B13:=F11.heap B12 (by simp)
    replace G:=G.trans F11
    clear B12 F11
    go_wp2_with (at_builtin;refine wpList_appSq fT_lays rfl _ _ 51 rfl Tryz.underlying51 itI rfl (B:=w5.heap.size) (.slice none 0 0) [] rfl ⟨rfl,.inl ⟨rfl,rfl⟩⟩ _ x.l rfl (HS1.out.up G) (by have:=HT.out;simp;omega) (by decide) G.size ?_;intro a21 c21 w21 r21 f21)
    rw [List.nil_append] at r21
    have B21:=Fr.heap f21 B13 (by simp [Value.ownBlock])
    replace G:=G.trans f21
    clear f21 B13
    refine nx_normal ⟨G,?_⟩
    refine lo 10 (fun w13 F13=>?_)
    have r22:=row_keeps r21 F13
    have B22:=F13.heap B21 (by simp)
    replace G:=G.trans F13
    clear r21 B21 F13
   rotate_left
   all_goals
    go_wp2_with (at_builtin;refine wpList_appSq fT_lays rfl _ _ 51 rfl Tryz.underlying51 itI rfl (B:=w5.heap.size) _ x.l rfl r22 _ [it] rfl (Sq.block B22 rfl rfl (Nat.le_refl _) (by simp [maxLen])) (by have:=HT.out;simp;omega) (by decide) G.size ?_;intro a23 c23 w23 r23 f23;generalize hT3:x.l++[it]=T3 at r23 ⊢)
    replace G:=G.own f23 (row_base r22)
    clear f23 r22 B22
    refine nx_normal ⟨G,?_⟩
    refine lo 17 (fun w14 F14=>?_)
    have r24:=row_keeps r23 F14
    replace G:=G.trans F14
    clear r23 F14
    go_wp2_with (at_builtin;refine wpList_appSq fT_lays rfl _ _ 51 rfl Tryz.underlying51 itI rfl (B:=w5.heap.size) _ T3 rfl r24 _ [] rfl (HS2.out.up G) (by have:=HT.out;rw [← hT3];simp;omega) (by decide) G.size ?_;intro a25 c25 w25 r25 f25;generalize hT4:T3++([]:List It)=T4 at r25 ⊢)
    replace G:=G.own f25 (row_base r24)
    clear f25 r24
    refine nx_normal ⟨G,?_⟩
    refine envL_tail (k:=18) rfl (by kernel_rfl) (fun w15 F15=>?_)
    have r26:=row_keeps r25 F15
    replace G:=G.trans F15
    clear r25 F15
    have h26:=h.up G
    have z26:=h26.frozen
    obtain ⟨-,-,-,-,-,-,-,-,-,-,-,-,-,-,c14⟩:=lok_cells h26
    go_wp2_with fail
    go_end0
    have hlt26:b<w5.heap.size:=h.lt
    have e26:insK x.l it=T4:=by rw [HT.out.2.2,hT3,hT4]
    rw [← e26] at r26 ⊢
    refine ⟨rfl,⟨_,Ob.set h26 (i:=14) _,(Sq.own r26).kept (Fr.setCell (S:=[b]) _ (by simp)) (fun g hg hi=>?_),fun g hg=>Nat.le_trans F0.size (row_base r26 g hg)⟩,(F0.mono).trans ((G.mono).trans (Fr.setCell _ (by simp)))⟩
    have:=row_base r26 g hg
    simp at hi
    omega
theorem flatT_get (cs:List It) {j:Nat} {u:Value} (h:(cs.flatMap fT)[j]? = some u):∃ c,cs[j / 3]? = some c∧(fT c)[j % 3]? = some u:=by
 have hj:=(List.getElem?_eq_some_iff.1 h).1
 rw [fT_lays.flat] at hj
 have hi:j / 3<cs.length:=by omega
 refine ⟨cs[j / 3],List.getElem?_eq_getElem hi,?_⟩
 have e:=fT_lays.at (xs:=cs) (i:=j / 3) (j:=j % 3) (List.getElem?_eq_getElem hi) (by omega)
 rw [show j / 3 * 3+j % 3=j by omega] at e
 rw [← e];exact h
theorem sq_set3 {w:World} {g n cap m:Nat} {cs:List It} {x:It} {cur:Array Value} {T:TypeId} (h:Sq fT w (.slice (some ⟨g,0,none⟩) n cap) cs) (hh:w.heap[g]? = some (.cells cur T (0,0))) (hx:cs[m]? = some x) (y:It) :
  Sq fT (((w.setCell ⟨g,m * 3,none⟩ (.int .i64 y.k)).setCell ⟨g,m * 3+1,none⟩ (.int .i64 y.v)).setCell ⟨g,m * 3+2,none⟩ (.int .i64 y.d)) (.slice (some ⟨g,0,none⟩) n cap) (cs.set m y):=by
 obtain ⟨-,g',off',e',d2⟩:=Sq.cell fT_lays h hx
 obtain ⟨a',cap',e,h1,h2,h3⟩:=h
 simp only [Value.slice.injEq] at e
 obtain ⟨rfl,rfl,rfl⟩:=e
 have hm:=(List.getElem?_eq_some_iff.1 hx).1
 simp only [Option.some.injEq,Addr.mk.injEq] at e'
 obtain ⟨rfl,rfl,-⟩:=e'
 have hc2:=d2 2 (.int .i64 x.d) rfl
 rw [cell_of_row _ _ _ _ _ _ hh,Nat.zero_add] at hc2
 have hlt:m * 3+2<cur.size:=(Array.getElem?_eq_some_iff.1 hc2).1
 have hh':=heap_setCell_same _ g (m * 3+2) _ T (.int .i64 y.d) (heap_setCell_same _ g (m * 3+1) _ T (.int .i64 y.v) (heap_setCell_same w g (m * 3) cur T (.int .i64 y.k) hh))
 refine ⟨_,cap,by simp,by simpa using h1,h2,.inr ⟨g,0,rfl,(Array.getElem?_eq_some_iff.1 hh').1,fun j u hu=>?_⟩⟩
 rw [cell_of_row _ _ _ _ _ _ hh',Nat.zero_add]
 obtain ⟨c,hc,hu⟩:=flatT_get _ hu
 rcases h3 with h0 | ⟨g2,o2,e2,-,hall⟩
 ·omega
 simp only [Option.some.injEq,Addr.mk.injEq] at e2
 obtain ⟨rfl,rfl,-⟩:=e2
 have ej:j=j / 3 * 3+j % 3:=by omega
 have h3:j % 3<3:=Nat.mod_lt _ (by decide)
 by_cases hjm:j / 3=m
 ·rw [hjm,List.getElem?_set_self hm] at hc
  obtain rfl:=Option.some.inj hc
  have h4:j % 3=0∨j % 3=1∨j % 3=2:=by omega
  rw [hjm] at ej
  rcases h4 with h4 | h4 | h4
  ·rw [h4] at hu ej
   rw [Nat.add_zero] at ej
   rw [Array.getElem?_setIfInBounds_ne (by omega),Array.getElem?_setIfInBounds_ne (by omega),ej,Array.getElem?_setIfInBounds_self_of_lt (by omega)]
   exact hu
  ·rw [h4] at hu ej
   rw [Array.getElem?_setIfInBounds_ne (by omega),ej,Array.getElem?_setIfInBounds_self_of_lt (by simp;omega)]
   exact hu
  ·rw [h4] at hu ej
   rw [ej,Array.getElem?_setIfInBounds_self_of_lt (by simp;omega)]
   exact hu
 ·rw [List.getElem?_set_ne (fun e=>hjm e.symm)] at hc
  rw [Array.getElem?_setIfInBounds_ne (by omega),Array.getElem?_setIfInBounds_ne (by omega),Array.getElem?_setIfInBounds_ne (by omega)]
  have:=hall j u (by rw [ej];exact (fT_lays.at hc h3).trans hu)
  rwa [cell_of_row _ _ _ _ _ _ hh,Nat.zero_add] at this
theorem itemN_lt {l:List It} {key:Int} {i:Nat} (h:itemN l key=some i):i<l.length:=by
 unfold itemN at h
 rw [List.findIdx?_eq_some_iff_getElem] at h
 exact h.1
theorem put_some (x:Lok) (it:It) (i b:Nat) (w:World) (hN:itemN x.l it.k=some i) (hl:x.l.length≤1000) (h:LokAt w b x) (hs:Sq fT w x.lv x.l) (hb:b∉x.lv.ownBlock.toList) :
  Calls Tryz.prog 75 #[.pointer (some ⟨b,0,none⟩),.agg #[.int .i64 it.k,.int .i64 it.v,.int .i64 it.d]] w fun e w'=>e = .returned (.tuple #[])∧(∃ lv',LokAt w' b { x with l:=x.l.set i it,lv:=lv' } ∧ Sq fT w' lv' (x.l.set i it)∧∀ g,g∈lv'.ownBlock.toList→w.heap.size≤g)∧Fr [b] w w':=by
 obtain ⟨a,cap,hlv,hcap,hmax,-⟩:=id hs
 have hil:=itemN_lt hN
 have F0:=(Fr.refl [] w).alloc (.cells #[.int .i64 it.k,.int .i64 it.v,.int .i64 it.d] 60)
 have ob:=Ob.new w 60 #[.int .i64 it.k,.int .i64 it.v,.int .i64 it.d]
 have hi:=item_any x it.k b _ hl (h.up F0) (hs.up F0)
 rw [show itemI x.l it.k=(i:Int) by unfold itemI;rw [hN]] at hi
 have HI:=Lib.hid hi
 clear hi
 have hbw:=h.lt
 go_enter Tryz.func75,Tryz.ntmps75
 go_wp2_with fail
 refine HI.out.mono ?_;rintro e _ ⟨rfl,rfl⟩
 clear HI
 replace h:=h.up F0
 replace hs:=hs.up F0
 have hwl:w.heap.size<(w.alloc (.cells #[.int .i64 it.k,.int .i64 it.v,.int .i64 it.d] 60)).heap.size:=by simp
 generalize (w.alloc (.cells #[.int .i64 it.k,.int .i64 it.v,.int .i64 it.d] 60))=w1 at *
 have hc14:=(lok_cells h).2.2.2.2.2.2.2.2.2.2.2.2.2.2
 rw [hlv] at hs hb hc14
 have gi:decide ((i:Int)≥0)=true:=by simp
 go_wp2_with (at_builtin;refine wpList_appSq fT_lays rfl _ _ 51 rfl Tryz.underlying51 itI rfl (B:=w1.heap.size) (.slice none 0 0) [] rfl ⟨rfl,.inl ⟨rfl,rfl⟩⟩ _ x.l rfl hs (by simp only [List.length_nil];omega) (by decide) (Nat.le_refl _) ?_;intro a7 c7 w7 r7 F7;rw [List.nil_append] at r7;have h7:=Ob.kept h F7 (by simp [Value.ownBlock]);have ob7:=Ob.kept ob F7 (by simp [Value.ownBlock]);have z:=h7.frozen;have c14:=(lok_cells h7).2.2.2.2.2.2.2.2.2.2.2.2.2.2)
 have hn7:=row_ne r7 h7 (by decide)
 have F8:Fr [b] w7 (w7.setCell ⟨b,14,none⟩ (.slice a7 x.l.length c7)):=Fr.setCell (b:=b) (i:=14) _ (by simp)
 have h8:LokAt (w7.setCell ⟨b,14,none⟩ (.slice a7 x.l.length c7)) b { x with lv:=(.slice a7 x.l.length c7) }:=Ob.set h7 (i:=14) (.slice a7 x.l.length c7)
 have r8:=row_fr r7 F8 (fun g hg hi=>by rw [List.mem_singleton.1 hi] at hg;exact hn7 (by simp [hg]))
 have hbne:w.heap.size≠b:=by omega
 have ob8:=ob7.kept F8 (by simpa using hbne)
 have G8:Fr [b] w (w7.setCell ⟨b,14,none⟩ (.slice a7 x.l.length c7)):=((F0.mono).trans (F7.mono (by simp [Value.ownBlock]))).trans F8
 generalize (w7.setCell ⟨b,14,none⟩ (.slice a7 x.l.length c7))=w8 at *
 have sr8:=Sq.own r8
 have hrb:=row_base r8
 rcases r8.2 with ⟨e1,-⟩ | ⟨g,cap2,cur,e1,hg1,hh,hc1,hc2,hsz,-⟩
 ·simp only [Value.slice.injEq] at e1
  omega
 simp only [Value.slice.injEq] at e1
 obtain ⟨rfl,-,rfl⟩:=e1
 have hgb:g≠b:=by intro e;exact hn7 (by simp [Value.ownBlock,e])
 have hx:x.l[i]? = some x.l[i]:=List.getElem?_eq_getElem hil
 have HX:=Lib.hid hx
 clear h7 ob7 z c14 hc14 F7 r7 hn7 F8 r8 hx hs ob h gi
 refine wp_region_free (by kernel_rfl) ?_
 refine any_envL [] w8 #[true,true,true,true,true,true,false,false] 6 2 rfl ?_
 refine lp [true,true,true,true,true,true,false,false] 0 ((Fr.refl _ w8).drew) ?_
 apply Exists.intro
 refine ⟨fun wf Ff=>?_,?_⟩
 ·have c14:=(lok_cells (h8.up Ff)).2.2.2.2.2.2.2.2.2.2.2.2.2.2
  have k14:=In.cell c14
  have q0:=In.cell ((ob8.up Ff).cell (i:=0) rfl)
  have q1:=In.cell ((ob8.up Ff).cell (i:=1) rfl)
  have q2:=In.cell ((ob8.up Ff).cell (i:=2) rfl)
  clear c14
  simp only [sel]
  repeat (go_big_quiet_step (fail))
  exact wpQuiet_nil rfl
 refine envL_tail (k:=6) rfl (by kernel_rfl) (fun w9 F9=>?_)
 have E9:=(Fr.refl [] w8).drew.trans F9
 have h9:=h8.up E9
 have hh9:=E9.heap hh (by simp)
 have sr9:=sr8.up E9
 have G9:=G8.then E9
 clear F9 E9 h8 hh sr8 G8 ob8
 have zg:∀ j,w9.frozen? ⟨g,j,none⟩=false:=fun j=>frozen_of_row _ _ _ _ _ hh9
 obtain ⟨g',off',e',d0,d1,d2⟩:=it_cells sr9 HX.out
 simp only [Option.some.injEq,Addr.mk.injEq] at e'
 obtain ⟨rfl,rfl,-⟩:=e'
 rw [Nat.zero_add] at d0 d1 d2
 have hS:=sq_set3 sr9 hh9 HX.out it
 have FS:Fr [g] w9 (((w9.setCell ⟨g,i * 3,none⟩ (.int .i64 it.k)).setCell ⟨g,i * 3+1,none⟩ (.int .i64 it.v)).setCell ⟨g,i * 3+2,none⟩ (.int .i64 it.d)):=Fr.setCell' (Fr.setCell' (Fr.setCell (b:=g) (i:=i * 3) _ (by simp)) (b:=g) (i:=i * 3+1) _ (by simp)) (b:=g) (i:=i * 3+2) _ (by simp)
 have hSG:=Lib.hid (And.intro hS FS)
 clear hS FS
 go_wp2_with fail
 refine bodyPost_ret (v:=.tuple #[]) (by simp [results,Tryz.results75,go_sem]) rfl ?_
 refine ⟨rfl,⟨_,h9.kept hSG.out.2 (by simpa using hgb.symm),hSG.out.1,fun k hk=>Nat.le_trans F0.size (hrb k hk)⟩,?_⟩
 exact ⟨hSG.out.2.os.trans G9.os,hSG.out.2.tape.trans G9.tape,hSG.out.2.output.trans G9.output,Nat.le_trans G9.size hSG.out.2.size,fun k hk hn=>(hSG.out.2.block k (Nat.lt_of_lt_of_le hk G9.size) (by simp;omega)).trans (G9.block k hk hn)⟩
end Go.Proofs.YtilipdnchflkhaaGreatDoor.Mx
