/- Texts that this proof leans on, one behind the other: Chain7, Clone. -/
import Derived.Test.YtilipdnchflkhaaDoorGaa
import Derived.Test.YtilipdnchflkhaaDoorGab
import Derived.Test.YtilipdnchflkhaaDoorGag
import Derived.Test.YtilipdnchflkhaaDoorGai
import Derived.Test.YtilipdnchflkhaaDoorGak
import Derived.Carry
set_option linter.unusedVariables false
set_option linter.unusedSimpArgs false
set_option maxRecDepth 100000
set_option maxHeartbeats 12800000
namespace Go.Proofs.YtilipdnchflkhaaDoor.Ch
open Go.RowKit Go.Proofs.YtilipdnchflkhaaDoor.Ar Go.Proofs.YtilipdnchflkhaaDoor.Mx Go.Proofs.YtilipdnchflkhaaDoor.Vw
def itV (x:It):Value:=.agg #[.int .i64 x.k,.int .i64 x.v,.int .i64 x.d]
def zeroItV:Value:=.agg #[.int .i64 0,.int .i64 0,.int .i64 0]
theorem zeroIt (W:World):(zeroValue 45).run Tryd.prog W = .ok zeroItV W:=by kernel_rfl
def mapG (g:Int→Option It) (k:Int):Option Value:=(g k).map itV
theorem gm_alloc {w:World} {b n:Nat} {g:Int→Option Value} (h:GMap w b n g) (o:Obj):GMap (w.alloc o) b n g:=h.up ((Fr.refl [] w).alloc o)
end Go.Proofs.YtilipdnchflkhaaDoor.Ch
namespace Go.Proofs.YtilipdnchflkhaaDoor.Ar
open Go.RowKit
def Cloned (w:World) (np:Nat) (xs:List Value) (e:Ending) (w':World):Prop :=
 ∃ g cap,e = .returned (.slice (some ⟨g,0,none⟩) np cap)∧w.heap.size≤g∧w'.ownsRow 0 53 64 (.slice (some ⟨g,0,none⟩) np cap) np xs∧Fr [] w w'
theorem cloned {w w1:World} {np:Nat} {xs:List Value} {v':Value} (hnp:1≤np) (h:w1.ownsRow w.heap.size 53 64 v' np xs) (f:Fr [] w w1):Cloned w np xs (.returned v') w1:=by
 obtain ⟨h1,h2⟩:=h
 rcases h2 with ⟨-,rfl⟩ | ⟨g,cap,cur,rfl,hb,r⟩
 ·omega
 ·exact ⟨g,cap,rfl,hb,⟨h1,.inr ⟨g,cap,cur,rfl,Nat.zero_le _,r⟩⟩,f⟩
theorem clone_any (q np cap:Nat) (c:Array Value) (w:World) (hq:w.heap[q]? = some (.cells c 53 (0,0))) (h1:1≤np) (h2:np≤313) (h3:np≤cap) (h4:c.size=cap * 64) (hone':∀ u∈c.toList.take (np * 64),u.oneCell'=true) :
  Calls Tryd.prog 22 #[.slice (some ⟨q,0,none⟩) np cap] w (Cloned w np (c.toList.take (np * 64))):=by
 obtain ⟨i0,h0,hz0,hz1,hz2⟩:=info_parts pageInfo
 have hnil:=fun (W:World)=>Lib.run_eql_slice_nil (P:=Tryd.prog) W 54 53 (some ⟨q,0,none⟩) np cap 0 0 Tryd.underlying54
 have hlt:q<w.heap.size:=(Array.getElem?_eq_some_iff.1 hq).1
 have hle:np * 64≤c.size:=by omega
 have hlen:(c.toList.take (np * 64)).length=np * 64:=by simp;omega
 have hrow:(w.alloc (.cells #[] 53)).ownsRow w.heap.size 53 64 (.slice (some ⟨w.heap.size,0,none⟩) 0 0) 0 []:=World.ownsRow_made w #[] 0 (Nat.le_refl _) (by decide) (by simp)
 have hcells:∀ j u,(c.toList.take (np * 64))[j]? = some u→(w.alloc (.cells #[] 53)).cell? ((⟨q,0,none⟩:Addr).add j)=some u:=by
  intro j u hu
  have hadd:(⟨q,0,none⟩:Addr).add j=⟨q,j,none⟩:=by unfold Addr.add;split <;> simp_all
  rw [hadd,World.cell?_alloc_past _ _ _ hlt,cell_of_row w q j _ _ _ hq]
  rw [List.getElem?_take] at hu
  split at hu
  ·simpa using hu
  ·cases hu
 have H1:=Lib.hid hrow
 have H2:=Lib.hid hcells
 have H3:=Lib.hid hone'
 have H4:=Lib.hid hlen
 generalize hxs:c.toList.take (np * 64)=xs at *
 clear hrow hcells hone' hlen hq hxs h4 h3
 go_enter Tryd.func22,Tryd.ntmps22
 go_wp2_with (at_builtin;refine wpList_append_own _ rfl _ _ 54 rfl w.heap.size 53 i0 page0 64 512 Tryd.underlying54 h0 hz0 hz1 hz2 rfl (by decide) _ 0 [] rfl H1.out ⟨q,0,none⟩ np cap xs rfl H4.out H2.out H3.out (by unfold maxLen;omega) (by omega) (by simp) ?_;intro v' w1 hown hgrow _)
 have hF:Fr [] w w1:=⟨hgrow.os,hgrow.tape,hgrow.output,by have:=hgrow.size;simp at this;omega,fun k hk _=>(hgrow.block k (by simp;omega) (fun e=>Nat.ne_of_lt hk (Option.some.inj e))).trans (heap_alloc_old _ _ hk)⟩
 clear hgrow
 go_wp2
 go_ret
 exact cloned h1 (by simpa using hown) hF
theorem copied_ar {w w1 w2:World} {p q g cap:Nat} {s:St} {c:Array Value} {cap0:Nat} (h:Ar w p q s)
  (hone:∀ u∈c.toList.take ((s.l.length+63) / 64 * 64),u.oneCell'=true) (hc:∀ i,i<s.l.length→c[i]? = some (.int .i64 (nth s.l i)))
  (hg:w.heap.size<g) (hown:w1.ownsRow 0 53 64 (.slice (some ⟨g,0,none⟩) ((s.l.length+63) / 64) cap) ((s.l.length+63) / 64) (c.toList.take ((s.l.length+63) / 64 * 64)))
  (f:Fr [] (w.alloc (.cells (arHead s q cap0) 58)) w1) (h2:w2=w1.setCell ⟨w.heap.size,1,none⟩ (.slice (some ⟨g,0,none⟩) ((s.l.length+63) / 64) cap)) :
  Made w s (.returned (.pointer (some ⟨w.heap.size,0,none⟩))) w2:=by
 subst h2
 have hp:w1.heap[w.heap.size]? = some (.cells (arHead s q cap0) 58 (0,0)):=(f.block w.heap.size (by simp) (by simp)).trans (Go.heap_alloc_new w _)
 refine ⟨w.heap.size,g,rfl,Nat.le_refl _,by omega,?_,⟨f.os,f.tape,f.output,by have:=f.size;simp at this ⊢;omega,fun k hk _=>?_⟩⟩
 ·obtain ⟨h1,h2⟩:=hown
  rcases h2 with ⟨h2,_⟩ | ⟨g',cap',cur,hv,-,hh,hc1,hc2,hsz,htk⟩
  ·cases h2
  ·cases hv
   refine ⟨by omega,h.lo,h.hi,cap,cur,heap_setCell_same _ _ _ _ _ _ hp,hc1,hc2,?_,hsz,by rw [htk];exact hone,fun i hi=>?_⟩
   ·rw [heap_setCell_other _ _ _ _ (by show g≠w.heap.size;omega)];exact hh
   ·have e1:(cur.toList.take ((s.l.length+63) / 64 * 64))[i]? = (c.toList.take ((s.l.length+63) / 64 * 64))[i]?:=by rw [htk]
    rw [List.getElem?_take_of_lt (by omega),List.getElem?_take_of_lt (by omega),Array.getElem?_toList,Array.getElem?_toList] at e1
    rw [e1];exact hc i hi
 ·rw [heap_setCell_other _ _ _ _ (by show k≠w.heap.size;omega)]
  exact (f.block k (by simp;omega) (by simp)).trans (heap_alloc_old _ _ hk)
theorem copy_any (w:World) (p q:Nat) (s:St) (h:Ar w p q s) :
  Calls Tryd.prog 10 #[.pointer (some ⟨p,0,none⟩)] w (Made w s):=by
 have h':=h
 have hlt:=h.lt
 obtain ⟨ne,lo,hi,cap,c,hp,hc1,hc2,hq,hs,hone,hc⟩:=h
 have g0:w.cell? ⟨p,0,none⟩=some (.int .i64 s.l.length):=by rw [cell_of_row w p 0 _ _ _ hp];rfl
 have g1:w.cell? ⟨p,1,none⟩=some (.slice (some ⟨q,0,none⟩) ((s.l.length+63) / 64) cap):=by rw [cell_of_row w p 1 _ _ _ hp];rfl
 have g2:w.cell? ⟨p,2,none⟩=some (.int .i64 s.n):=by rw [cell_of_row w p 2 _ _ _ hp];rfl
 have g3:w.cell? ⟨p,3,none⟩=some (.int .i64 s.a.kind):=by rw [cell_of_row w p 3 _ _ _ hp];rfl
 have g4:w.cell? ⟨p,4,none⟩=some (.int .i64 s.a.at_):=by rw [cell_of_row w p 4 _ _ _ hp];rfl
 have g5:w.cell? ⟨p,5,none⟩=some (.int .i64 s.a.old):=by rw [cell_of_row w p 5 _ _ _ hp];rfl
 have g6:w.cell? ⟨p,6,none⟩=some (.int .i64 s.a.new):=by rw [cell_of_row w p 6 _ _ _ hp];rfl
 have g7:w.cell? ⟨p,7,none⟩=some (.bool s.a.ok):=by rw [cell_of_row w p 7 _ _ _ hp];rfl
 have hq1:(w.alloc (.cells (arHead s q cap) 58)).heap[q]? = some (.cells c 53 (0,0)):=(heap_alloc_old _ _ hlt.2).trans hq
 have HC:=clone_any q ((s.l.length+63) / 64) cap c _ hq1 (by omega) (by omega) hc1 hs hone
 have H1:=Lib.hid hone
 have H2:=Lib.hid hc
 have H3:=Lib.hid hs
 have hp1:p<w.heap.size:=hlt.1
 clear hone hc hq hs hp hq1 hlt
 go_enter Tryd.func10,Tryd.ntmps10
 go_wp2_with fail
 refine HC.mono ?_
 rintro e w1 ⟨g,cap',rfl,hg,hown,f⟩
 have hn:w1.heap[w.heap.size]? = some (.cells (arHead s q cap) 58 (0,0)):=(f.block w.heap.size (by simp) (by simp)).trans (Go.heap_alloc_new w _)
 have k1:w1.cell? ⟨w.heap.size,1,none⟩=some (.slice (some ⟨q,0,none⟩) ((s.l.length+63) / 64) cap):=by rw [cell_of_row w1 _ 1 _ _ _ hn];rfl
 have k2:w1.frozen? ⟨w.heap.size,1,none⟩=false:=frozen_of_row _ _ _ _ _ hn
 have hM:=copied_ar h' H1.out H2.out (Nat.lt_of_succ_le (by simpa using hg)) hown f rfl
 clear hn hown f HC
 go_wp2
 go_ret
 exact hM
end Go.Proofs.YtilipdnchflkhaaDoor.Ar
