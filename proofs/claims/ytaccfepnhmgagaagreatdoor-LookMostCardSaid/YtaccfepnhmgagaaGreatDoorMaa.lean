/- Parts. -/
import Derived.Test.YtaccfepnhmgagaaGreatDoorVbd
import Derived.Test.YtaccfepnhmgagaaGreatDoorVac
import Derived.Test.YtaccfepnhmgagaaGreatDoorVbh
import Derived.Maps.Views
import Derived.Test.YtaccfepnhmgagaaGreatDoorVbn
import Derived.Test.YtaccfepnhmgagaaGreatDoorVaa
import Derived.Sort.Grow
import Derived.Test.YtaccfepnhmgagaaGreatDoorVax
import Derived.Test.YtaccfepnhmgagaaGreatDoorChecked
import Derived.Deep.RegionWith
import Derived.Test.YtaccfepnhmgagaaGreatDoorIter8
import Derived.Shelf.SlSortCmp.WholeK
import Derived.RangeFuncBound
import Derived.Shelf.SlIterI.Collect
import Derived.Test.YtaccfepnhmgagaaGreatDoorVad
set_option linter.unusedVariables false
set_option linter.unusedSimpArgs false
set_option maxRecDepth 100000
namespace Go.Proofs.YtaccfepnhmgagaaGreatDoor.Og
open Go.RowKit Go.Maps Go.Proofs.YtaccfepnhmgagaaGreatDoor.Ar
set_option linter.unusedVariables false
set_option linter.unusedSimpArgs false
def scc (r:Nat):Array Value:=#[.int .i64 2,.int .i64 4,.int .i64 200,.int .i64 1000,.slice (some ⟨r,0,none⟩) 1 1,.slice none 0 0,.slice none 0 0]
structure KB (w v:World) (r p q e d:Nat):Prop where
 g:Fr [] w v
 s:Scr v (sc r) 2 4 200 1000 [[(1,3,9,0)]] [] []
 t:Scr v (sc e) 2 4 200 1000 [[(3,0,1,0)]] [] []
 a:v.heap[p]? = some (.cells (scc r) 27 (0,0))
 b:v.heap[d]? = some (.cells (scc e) 27 (0,0))
 o:v.heap[q]? = some (.cells #[.int .i64 1,.int .i64 3,.int .i64 9,.int .i64 0] 123 (0,0))
theorem KB.up {w v v':World} {r p q e d:Nat} (h:KB w v r p q e d) (f:Fr [] v v'):KB w v' r p q e d :=
 ⟨h.g.trans f,h.s.up f,h.t.up f,qbp f h.a,qbp f h.b,qbp f h.o⟩
end Go.Proofs.YtaccfepnhmgagaaGreatDoor.Og
namespace Go.Proofs.YtaccfepnhmgagaaGreatDoor.Vw
open Go.RowKit Go.Proofs.YtaccfepnhmgagaaGreatDoor.Ar Go.Proofs.YtaccfepnhmgagaaGreatDoor.Mx
set_option linter.unusedVariables false
set_option linter.unusedSimpArgs false
def chV (h:Hd) (lv:Value):Value:=.agg #[.int .i64 h.at_,.int .i64 h.mn,.int .i64 h.ct,.int .i64 h.nx,.int .i64 h.ld,.int .i64 h.mt,.int .i64 h.rp,.int .i64 h.st,lv]
def ChIs (w:World) (v:Value) (h:Hd) (cs:List Ce):Prop:=∃ lv,v=chV h lv∧Sq fC w lv cs
theorem ChIs.up {w w':World} {v:Value} {h:Hd} {cs:List Ce} (k:ChIs w v h cs) (f:Fr [] w w'):ChIs w' v h cs:=by
 obtain ⟨lv,rfl,s⟩:=k
 exact ⟨lv,rfl,s.up f⟩
theorem qal (s:Int) (w:World):Calls Tryz.prog 55 #[.int .i64 s] w fun e w'=>e = .returned (.int .i64 (verV s))∧w=w':=by
 by_cases c:s<3
 all_goals
  go_enter Tryz.func55,Tryz.ntmps55
  go_wp2
  go_ret
  exact q0p (by unfold verV;first | (rw [qf (by omega)];done) | (rw [qd (by omega)];done))
end Go.Proofs.YtaccfepnhmgagaaGreatDoor.Vw
namespace Go.Proofs.YtaccfepnhmgagaaGreatDoor.Mx
open Go.RowKit Go.Proofs.YtaccfepnhmgagaaGreatDoor.Ar Go.Proofs.YtaccfepnhmgagaaGreatDoor.Vw
set_option linter.unusedVariables false
set_option linter.unusedSimpArgs false
def Chs.next (x:Chs) (n:Int):Chs:=⟨{ x.h with nx:=n },x.s⟩
end Go.Proofs.YtaccfepnhmgagaaGreatDoor.Mx
namespace Go.Proofs.YtaccfepnhmgagaaGreatDoor.Mp
open Go.RowKit Go.Proofs.YtaccfepnhmgagaaGreatDoor.Ar
set_option linter.unusedVariables false
set_option linter.unusedSimpArgs false
def PairRow (w:World) (v:Value) (ps:List (Int×Int)):Prop:=∃ (a:Option Addr) (cap:Nat),v = .slice a ps.length cap∧ps.length≤maxLen ∧
 (ps.length=0∨∃ b off,a=some ⟨b,off,none⟩∧b<w.heap.size∧∀ i,i<ps.length→w.cell? ⟨b,off+i * 2,none⟩=some (.int .i64 (ps.getD i (0,0)).1)∧w.cell? ⟨b,off+i * 2+1,none⟩=some (.int .i64 (ps.getD i (0,0)).2))
theorem cellUp {w w':World} (f:Fr [] w w') {b i:Nat} {v:Value} (h:w.cell? ⟨b,i,none⟩=some v):w'.cell? ⟨b,i,none⟩=some v:=f.cell h (by simp)
theorem PairRow.up {w w':World} {v:Value} {ps:List (Int×Int)} (h:PairRow w v ps) (f:Fr [] w w'):PairRow w' v ps:=by
 obtain ⟨a,cap,h1,h2,h4⟩:=h
 refine ⟨a,cap,h1,h2,?_⟩
 rcases h4 with h | ⟨b,off,h5,h6,h7⟩
 ·exact .inl h
 ·refine .inr ⟨b,off,h5,qj h6 f.size,fun i hi=>?_⟩
  obtain ⟨c0,c1⟩:=h7 i hi
  exact ⟨cellUp f c0,cellUp f c1⟩
theorem PairRow.kept {S:List Nat} {w w':World} {v:Value} {ps:List (Int×Int)} (h:PairRow w v ps) (f:Fr S w w') (hS:∀ g,g∈v.ownBlock.toList→g∉S):PairRow w' v ps:=by
 obtain ⟨a,cap,rfl,h2,h4⟩:=h
 refine ⟨a,cap,rfl,h2,?_⟩
 rcases h4 with h | ⟨b,off,rfl,h6,h7⟩
 ·exact .inl h
 ·have hb:b∉S:=hS b (by simp [Value.ownBlock])
  refine .inr ⟨b,off,rfl,qj h6 f.size,fun i hi=>?_⟩
  obtain ⟨c0,c1⟩:=h7 i hi
  exact ⟨f.cell c0 hb,f.cell c1 hb⟩
end Go.Proofs.YtaccfepnhmgagaaGreatDoor.Mp
namespace Go.Proofs.YtaccfepnhmgagaaGreatDoor.Ar
open Go.RowKit Go.Maps
def asIs (v:Value):Option (DataW Value×List MemPlace):=some (.held v,[])
theorem ik_inj {a b:Nat} (h:ik a=ik b):a=b:=by unfold ik at h;simp at h;omega
theorem intKeyV:Keyed Tryz.prog 3:=int_keyed Tryz.underlying3
theorem keyOf_ik {k:Nat} (h:k<64):keyOf Tryz.prog 3 (.int .i64 k)=some (ik k):=keyOf_int_mk Tryz.underlying3 (WalkArith.wf_i64 (by omega))
theorem cnt_le (D:DataW Value) (n:Nat):cnt D n≤n:=by
 induction n with
 | zero=>exact Nat.le_refl _
 | succ n ih=>unfold cnt;split <;> omega
theorem cnt_above (D:DataW Value) (k:Nat) (d:DataW Value) (n:Nat) (h:n≤k):cnt (D.put (ik k) d) n=cnt D n:=by
 induction n with
 | zero=>rfl
 | succ n ih =>
  unfold cnt
  rw [ih (by omega),has_put_other (fun e=>by have:=ik_inj e;omega)]
theorem cnt_put (D:DataW Value) (hD:IsMap D) (k:Nat) (d:DataW Value) (n:Nat) (h:k<n):cnt (D.put (ik k) d) n=if has D (ik k) then cnt D n else cnt D n+1:=by
 induction n with
 | zero=>omega
 | succ n ih =>
  unfold cnt
  by_cases e:k=n
  ·subst e
   rw [cnt_above D k d k (Nat.le_refl _),has_put_same hD (show WideAt.IsKeyLit (ik k) from trivial)]
   cases has D (ik k) <;> simp
  ·rw [ih (by omega),has_put_other (fun h=>e (ik_inj h).symm)]
   cases has D (ik k) <;> simp <;> omega
def VMap (w:World) (b:Nat) (D:DataW Value):Prop:=(∃ n,w.ownsMap Tryz.prog 3 asIs b n D)∧size D≤cnt D 64
theorem VMap.lt {w:World} {b:Nat} {D:DataW Value} (h:VMap w b D):b<w.heap.size:=by
 obtain ⟨⟨n,h⟩,-⟩:=h;exact h.lt
theorem VMap.kept {S:List Nat} {w w':World} {b:Nat} {D:DataW Value} (h:VMap w b D) (f:Fr S w w') (hb:b∉S):VMap w' b D:=by
 obtain ⟨⟨n,es,clock,h1,h2⟩,h3⟩:=h
 exact ⟨⟨n,es,clock,f.heap h1 hb,h2⟩,h3⟩
theorem VMap.isMap {w:World} {b:Nat} {D:DataW Value} (h:VMap w b D):IsMap D:=by
 obtain ⟨⟨n,h⟩,-⟩:=h;exact h.isMap
theorem VMap.made (w:World):VMap (w.alloc (.map #[] 0)) w.heap.size (.map []):=⟨⟨_,World.ownsMap_made w _ _ _⟩,Nat.zero_le _⟩
theorem fr_grown_some {w w':World} {b:Nat} (h:w.grownBy w' (some b)):Fr [b] w w':=⟨h.os,h.tape,h.output,h.size,fun k hk hn=>h.block k hk (fun e=>hn (by cases e;simp))⟩
theorem VMap.put {w:World} {b:Nat} {D:DataW Value} (h:VMap w b D) {t e:TypeId} (ht:Tryz.prog.underlying t=some (.map 3 e)) {k:Nat} (hk:k<64) (v:Value) :
  ∃ w',(Instr.mapUpdate t (.map (some b)) (.int .i64 k) v).run Tryz.prog w = .ok () w'∧VMap w' b (D.put (ik k) (.held v))∧Fr [b] w w':=by
 have hM:=h.isMap
 obtain ⟨⟨n,h1⟩,h2⟩:=h
 have hT:=h1.tidy intKeyV
 have h1':w.ownsMap Tryz.prog 3 asIs b (size D) D:=by
  obtain ⟨es,clock,hb,F,hs,rfl⟩:=h1
  exact ⟨es,clock,hb,F,by rw [size_eq,length_sorted];simp,rfl⟩
 have hc:=cnt_le D 64
 obtain ⟨w',r1,r2,r3⟩:=h1'.update intKeyV ht (by unfold maxLen;omega) (keyOf_ik hk) (show asIs v=some (.held v,[]) from rfl)
 refine ⟨w',r1,⟨⟨_,r2⟩,?_⟩,fr_grown_some r3⟩
 rw [Go.Maps.size_put hT,cnt_put D hM k _ 64 hk]
 split <;> omega
theorem VMap.look {w:World} {b:Nat} {D:DataW Value} (h:VMap w b D) {t e:TypeId} (ht:Tryz.prog.underlying t=some (.map 3 e)) {z:Value} (hz:(zeroValue e).run Tryz.prog w = .ok z w) {k:Nat} (hk:k<64) {v:Value} (hv:D.atKey (ik k) (.held z) = .held v) (c:Bool) :
  (Instr.lookup t (.map (some b)) (.int .i64 k) c).run Tryz.prog w = .ok (if c then .tuple #[v,.bool (has D (ik k))] else v) w:=by
 obtain ⟨⟨n,es,clock,hb,F,hs,rfl⟩,-⟩:=h
 rcases Maps.fit_look c intKeyV ht hz hb F (keyOf_ik hk) with ⟨hrun,_,hat⟩ | ⟨e0,y,_,_,hrun,hRv,hat,_⟩
 ·rw [has_false_of_atKey hat]
  rw [hat] at hv
  obtain rfl:z=v:=by cases hv;rfl
  exact hrun
 ·rw [has_true_of_atKey hat]
  have hy:y=(.held e0.val,[]):=by unfold asIs at hRv;exact (qi hRv).symm
  rw [hat,hy] at hv
  obtain rfl:e0.val=v:=by cases hv;rfl
  exact hrun
end Go.Proofs.YtaccfepnhmgagaaGreatDoor.Ar
namespace Go.Proofs.YtaccfepnhmgagaaGreatDoor.Ar
open Go.RowKit Go.Maps
def HoldsV (D:DataW Value) (g:Int→Option Value):Prop :=
 IsMap D∧∀ k:Int,has D (.int .i64 k)=(g k).isSome∧∀ v,g k=some v→∀ zd,D.atKey (.int .i64 k) zd = .held v
def GMap (w:World) (b n:Nat) (g:Int→Option Value):Prop:=∃ D,w.ownsMap Tryz.prog 3 asIs b n D∧HoldsV D g
theorem holdsV_empty:HoldsV (.map []) (fun _=>none):=⟨isMap_empty,fun k=>⟨rfl,fun v h=>by cases h⟩⟩
theorem HoldsV.put {D:DataW Value} {g:Int→Option Value} (h:HoldsV D g) (k:Int) (v:Value):HoldsV (D.put (.int .i64 k) (.held v)) (fun x=>if x=k then some v else g x):=by
 obtain ⟨hm,hg⟩:=h
 refine ⟨hm.put _ _,fun x=>?_⟩
 by_cases hx:x=k
 ·subst hx
  have hk:WideAt.IsKeyLit (.int .i64 x):=trivial
  exact ⟨by rw [has_put_same hm hk];simp,fun u hu zd=>by simp at hu;subst hu;exact atKey_put_same hm hk _ _⟩
 ·have hne:(Lit.int .i64 x)≠Lit.int .i64 k:=fun e=>hx (by cases e;rfl)
  simp only [qd hx]
  rw [has_put_other hne]
  exact ⟨(hg x).1,fun u hu zd=>by rw [atKey_put_other hne];exact (hg x).2 u hu zd⟩
theorem GMap.made (w:World):GMap (w.alloc (.map #[] 0)) w.heap.size 0 (fun _=>none):=⟨_,World.ownsMap_made w _ _ _,holdsV_empty⟩
theorem GMap.kept {w w':World} {b n:Nat} {g:Int→Option Value} {S:List Nat} (h:GMap w b n g) (f:Fr S w w') (hb:b∉S):GMap w' b n g:=by
 obtain ⟨D,⟨es,clock,h1,h2⟩,hD⟩:=h
 exact ⟨D,⟨es,clock,f.heap h1 hb,h2⟩,hD⟩
theorem GMap.up {w w':World} {b n:Nat} {g:Int→Option Value} (h:GMap w b n g) (f:Fr [] w w'):GMap w' b n g:=h.kept f (by simp)
theorem GMap.lt {w:World} {b n:Nat} {g:Int→Option Value} (h:GMap w b n g):b<w.heap.size:=by
 obtain ⟨D,h1,_⟩:=h;exact h1.lt
theorem GMap.put {w:World} {b n:Nat} {g:Int→Option Value} (h:GMap w b n g) {t e:TypeId} (ht:Tryz.prog.underlying t=some (.map 3 e)) (hn:n<maxLen) {k:Int} (hk:(Lit.int .i64 k).wf=true) (v:Value) :
  ∃ w',(Instr.mapUpdate t (.map (some b)) (.int .i64 k) v).run Tryz.prog w = .ok () w'∧GMap w' b (n+1) (fun x=>if x=k then some v else g x)∧Fr [b] w w':=by
 obtain ⟨D,h1,hD⟩:=h
 obtain ⟨w',r1,r2,r3⟩:=h1.update intKeyV ht hn (keyOf_int_mk Tryz.underlying3 hk) (show asIs v=some (.held v,[]) from rfl)
 exact ⟨w',r1,⟨_,r2,hD.put k v⟩,fr_grown_some r3⟩
theorem GMap.look {w:World} {b n:Nat} {g:Int→Option Value} (h:GMap w b n g) {t e:TypeId} (ht:Tryz.prog.underlying t=some (.map 3 e)) {z:Value} (hz:(zeroValue e).run Tryz.prog w = .ok z w) {k:Int} (hk:(Lit.int .i64 k).wf=true) (c:Bool) :
  (Instr.lookup t (.map (some b)) (.int .i64 k) c).run Tryz.prog w = .ok (if c then .tuple #[(g k).getD z,.bool (g k).isSome] else (g k).getD z) w:=by
 obtain ⟨D,⟨es,clock,hb,F,hs,hDe⟩,hD⟩:=h
 obtain ⟨hh,hv⟩:=hD.2 k
 rcases Maps.fit_look c intKeyV ht hz hb F (keyOf_int_mk Tryz.underlying3 hk) with ⟨hrun,_,hat⟩ | ⟨e0,y,_,_,hrun,hRv,hat,_⟩
 ·rw [← hDe] at hat
  rw [has_false_of_atKey hat] at hh
  rw [show g k=none by cases hg:g k with | none=>rfl | some v=>rw [hg] at hh;simp at hh]
  simpa using hrun
 ·rw [← hDe] at hat
  rw [has_true_of_atKey hat] at hh
  obtain ⟨v,hg⟩:∃ v,g k=some v:=by cases hg:g k with | none=>rw [hg] at hh;simp at hh | some v=>exact ⟨v,rfl⟩
  have hy:y=(.held e0.val,[]):=by unfold asIs at hRv;exact (qi hRv).symm
  have h2:=hv v hg (.held z)
  rw [hat,hy] at h2
  obtain rfl:e0.val=v:=by cases h2;rfl
  rw [hg]
  simpa using hrun
end Go.Proofs.YtaccfepnhmgagaaGreatDoor.Ar
namespace Go.Proofs.YtaccfepnhmgagaaGreatDoor.Ch
open Go.RowKit Go.Proofs.YtaccfepnhmgagaaGreatDoor.Ar Go.Proofs.YtaccfepnhmgagaaGreatDoor.Mx Go.Proofs.YtaccfepnhmgagaaGreatDoor.Vw
set_option linter.unusedVariables false
set_option linter.unusedSimpArgs false
structure Kr_u where
 hd:Hd
 b:Nat
 n:Nat
structure CkAt (w:World) (B:Nat) (x:Kr_u) (y:Hd×List Ce):Prop where
 hd:x.hd=y.1
 len:x.n=y.2.length
 base:B≤x.b
 at_:Ob w x.b 250 (y.2.flatMap fC).toArray
theorem CkAt.kept {S:List Nat} {w w':World} {B:Nat} {x:Kr_u} {y:Hd×List Ce} (h:CkAt w B x y) (f:Fr S w w') (hS:∀ b cs,Ob w b 250 cs→b∉S):CkAt w' B x y:=⟨h.hd,h.len,h.base,h.at_.kept f (hS _ _ h.at_)⟩
structure CkRow (w:World) (B:Nat) (xs:List Kr_u) (L:List (Hd×List Ce)):Prop where
 len:xs.length=L.length
 each:∀ (i:Nat) (x:Kr_u) (y:Hd×List Ce),xs[i]? = some x→L[i]? = some y→CkAt w B x y
theorem CkRow.kept {S:List Nat} {w w':World} {B:Nat} {xs:List Kr_u} {L:List (Hd×List Ce)} (h:CkRow w B xs L) (f:Fr S w w') (hS:∀ b cs,Ob w b 250 cs→b∉S):CkRow w' B xs L :=
 ⟨h.len,fun i x y hx hy=>(h.each i x y hx hy).kept f hS⟩
theorem CkRow.up {w w':World} {B:Nat} {xs:List Kr_u} {L:List (Hd×List Ce)} (h:CkRow w B xs L) (f:Fr [] w w'):CkRow w' B xs L:=h.kept f (by simp)
theorem CkRow.nil (w:World) (B:Nat):CkRow w B [] []:=⟨rfl,fun i x y hx=>by simp at hx⟩
theorem CkRow.add {w:World} {B:Nat} {xs:List Kr_u} {L:List (Hd×List Ce)} {x:Kr_u} {y:Hd×List Ce} (h:CkRow w B xs L) (k:CkAt w B x y):CkRow w B (xs++[x]) (L++[y]):=by
 refine ⟨by simp [h.len],fun i u v hu hv=>?_⟩
 rw [List.getElem?_append] at hu hv
 by_cases hi:i<xs.length
 ·rw [qf hi] at hu
  rw [qf (by rw [← h.len];exact hi)] at hv
  exact h.each i u v hu hv
 ·rw [qd hi] at hu
  rw [qd (by rw [← h.len];exact hi)] at hv
  rw [h.len] at hu
  generalize i - L.length=j at hu hv
  cases j with
  | zero=>simp at hu hv;subst hu;subst hv;exact k
  | succ j=>simp at hu
end Go.Proofs.YtaccfepnhmgagaaGreatDoor.Ch
namespace Go.Proofs.YtaccfepnhmgagaaGreatDoor.Ch
open Go.RowKit Go.Proofs.YtaccfepnhmgagaaGreatDoor.Ar Go.Proofs.YtaccfepnhmgagaaGreatDoor.Mx Go.Proofs.YtaccfepnhmgagaaGreatDoor.Vw
set_option linter.unusedVariables false
set_option linter.unusedSimpArgs false
def itV (x:It):Value:=.agg #[.int .i64 x.k,.int .i64 x.v,.int .i64 x.d]
def zeroItV:Value:=.agg #[.int .i64 0,.int .i64 0,.int .i64 0]
theorem zeroIt (W:World):(zeroValue 65).run Tryz.prog W = .ok zeroItV W:=by kernel_rfl
def mapG (g:Int→Option It) (k:Int):Option Value:=(g k).map itV
theorem gm_alloc {w:World} {b n:Nat} {g:Int→Option Value} (h:GMap w b n g) (o:Obj):GMap (w.alloc o) b n g:=h.up ((Fr.refl [] w).alloc o)
end Go.Proofs.YtaccfepnhmgagaaGreatDoor.Ch
namespace Go.Proofs.YtaccfepnhmgagaaGreatDoor.Dr
open Go.RowKit
structure Fr (S:List Nat) (w w':World):Prop where
 os:w'.os=w.os
 tape:w'.tape=w.tape
 output:w'.output=w.output
 size:w.heap.size≤w'.heap.size
 block:∀ k,k<w.heap.size→k∉S→w'.heap[k]? = w.heap[k]?
 drawn:w.drawn≤w'.drawn
theorem Fr.refl (S:List Nat) (w:World):Fr S w w:=⟨rfl,rfl,rfl,Nat.le_refl _,fun _ _ _=>rfl,Nat.le_refl _⟩
theorem Fr.trans {S:List Nat} {a b c:World} (h:Fr S a b) (k:Fr S b c):Fr S a c :=
 ⟨k.os.trans h.os,k.tape.trans h.tape,k.output.trans h.output,qh h.size k.size,fun i hi hn=>(k.block i (qj hi h.size) hn).trans (h.block i hi hn),qh h.drawn k.drawn⟩
theorem Fr.mono {S T:List Nat} {a b:World} (h:Fr S a b) (hs:∀ k,k∈S→k∈T):Fr T a b :=
 ⟨h.os,h.tape,h.output,h.size,fun i hi hn=>h.block i hi (fun e=>hn (hs i e)),h.drawn⟩
theorem Fr.drew {S:List Nat} {a w:World} (h:Fr S a w):Fr S a w.drew:=⟨h.os,h.tape,h.output,h.size,h.block,Nat.le_succ_of_le h.drawn⟩
theorem Fr.alloc {S:List Nat} {a w:World} (h:Fr S a w) (o:Obj):Fr S a (w.alloc o) :=
 h.trans ⟨rfl,rfl,rfl,by simp,fun k hk _=>Below.heap_alloc w o k hk,Nat.le_refl _⟩
theorem Fr.plain {S:List Nat} {a b:World} (h:Fr S a b):Ar.Fr S a b:=⟨h.os,h.tape,h.output,h.size,h.block⟩
theorem Fr.cell {S:List Nat} {w w':World} (f:Fr S w w') {b i:Nat} {v:Value} (h:w.cell? ⟨b,i,none⟩=some v) (hn:b∉S):w'.cell? ⟨b,i,none⟩=some v:=f.plain.cell h hn
theorem Fr.grow {w w':World} (h:Fr [] w w'):∃ q os,w'=Go.Sort.grow (w.drewN q) os:=by
 obtain ⟨heap,tape,drawn,os,output⟩:=w
 obtain ⟨heap',tape',drawn',os',output'⟩:=w'
 obtain ⟨h1,h2,h3,h4,h5,h6⟩:=h
 simp only at h1 h2 h3 h4 h5 h6
 subst h1;subst h2;subst h3
 refine ⟨drawn' - drawn,heap'.extract heap.size heap'.size,?_⟩
 unfold Go.Sort.grow World.drewN
 simp only [World.mk.injEq,and_true,true_and]
 refine ⟨?_,by omega⟩
 apply Array.ext'
 apply List.ext_getElem?
 intro i
 rw [Array.toList_append,Array.toList_extract]
 by_cases hi:i<heap.size
 ·have:=h5 i hi (by simp)
  rw [List.getElem?_append_left (by simpa using hi)]
  simpa using this
 ·rw [List.getElem?_append_right (by simpa using hi)]
  simp only [List.extract_eq_take_drop,Array.length_toList,List.getElem?_take,List.getElem?_drop]
  split
  ·congr 1;omega
  ·rw [List.getElem?_eq_none];simp;omega
theorem Fr.then {S:List Nat} {a b c:World} (h:Fr S a b) (k:Fr [] b c):Fr S a c:=h.trans (k.mono (by simp))
theorem Fr.drewN {S:List Nat} {a w:World} (h:Fr S a w) (n:Nat):Fr S a (w.drewN n):=⟨h.os,h.tape,h.output,h.size,h.block,qh h.drawn (Nat.le_add_right _ _)⟩
def In (w:World):Type:={ x:World // Fr [] w x }
def In.at_ {w:World} (s:In w):World:=s.1
theorem In.fr {w:World} (s:In w):Fr [] w s.at_:=s.2
instance (w:World):Nonempty (In w):=⟨⟨w,Fr.refl _ _⟩⟩
theorem qb {w:World} {b i:Nat} {v:Value} (h:w.cell? ⟨b,i,none⟩=some v) (s:In w):s.at_.cell? ⟨b,i,none⟩=some v:=s.fr.cell h (by simp)
theorem Calls.in_same {P:Program} {f:FuncId} {args:Array Value} {w:World} {s:In w} {v:Value}
  (h:Calls P f args s.at_ fun e w'=>e = .returned v∧s.at_=w'):Calls P f args s.at_ fun e w''=>e = .returned v∧∃ s':In w,w''=s'.at_ :=
 h.mono fun _ _ ⟨he,hf⟩=>⟨he,⟨s,hf.symm⟩⟩
section
variable {P:Program} {ops:Array Oper} {Q:Exit→Act→World→Prop} {md:Region.Mode} {w0:World} {S:List Nat}
end
section
variable {P:Program} {l:List Oper} {Q:Exit→Act→World→Prop} {w0:World} {S:List Nat}
end
end Go.Proofs.YtaccfepnhmgagaaGreatDoor.Dr
namespace Go.Proofs.YtaccfepnhmgagaaGreatDoor.Mx
open Go.Sort
set_option linter.unusedVariables false
set_option linter.unusedSimpArgs false
def lat1 (k v:Int) (b:Option It) (x:It):Option It:=if x.k=k∧x.v≤v∧b.all (fun y=>decide (y.v≤x.v))=true then some x else b
def latT (l:List It) (k v:Int):Option It:=l.foldl (lat1 k v) none
def P8_u (k v:Int) (x:It):Bool:=(x.k == k) && decide (x.v≤v)
theorem P8_iff {k v:Int} {x:It}:P8_u k v x=true↔x.k=k∧x.v≤v:=by simp [P8_u]
theorem lat1_eq {out:List It} (h:Srt out) (x:It) (k v:Int):lat1 k v ((out.filter (P8_u k v)).getLast?) x=((Tw out x).filter (P8_u k v)).getLast?:=by
 obtain ⟨A,B,e,e2,hA,hB⟩:=Wo out x h
 rw [e2,e]
 unfold lat1
 by_cases p:P8_u k v x=true
 ·have hp:=P8_iff.1 p
  rw [List.filter_append,List.filter_append,List.filter_cons_of_pos p]
  by_cases hb:B.filter (P8_u k v)=[]
  ·rw [hb,List.append_nil,List.getLast?_append]
   rw [qf]
   ·rfl
   ·refine ⟨hp.1,hp.2,?_⟩
    cases hz:(A.filter (P8_u k v)).getLast? with
    | none=>rfl
    | some z =>
     have hm:=List.mem_of_getLast? hz
     obtain ⟨hm1,hm2⟩:=List.mem_filter.1 hm
     have:=hA z hm1
     have:=P8_iff.1 hm2
     simp only [Option.all_some,decide_eq_true_eq]
     unfold leT at *;omega
  ·obtain ⟨z,hz⟩:=Option.isSome_iff_exists.1 (show ((B.filter (P8_u k v)).getLast?).isSome=true by rw [← Option.ne_none_iff_isSome,Ne,List.getLast?_eq_none_iff];exact hb)
   have hm:=List.mem_of_getLast? hz
   obtain ⟨hm1,hm2⟩:=List.mem_filter.1 hm
   have h1:=hB z hm1
   have h2:=P8_iff.1 hm2
   have e1:(A.filter (P8_u k v)++B.filter (P8_u k v)).getLast? = some z:=by rw [List.getLast?_append,hz];rfl
   have e2:(A.filter (P8_u k v)++x :: B.filter (P8_u k v)).getLast? = some z:=by
    rw [List.getLast?_append,List.getLast?_cons,hz];rfl
   rw [e1,e2,qd]
   rintro ⟨-,-,h3⟩
   simp only [Option.all_some,decide_eq_true_eq] at h3
   unfold ltT at *;omega
 ·rw [qd (fun hh=>p (P8_iff.2 ⟨hh.1,hh.2.1⟩)),List.filter_append,List.filter_append,List.filter_cons_of_neg p]
theorem latT_eq (l:List It) (k v:Int):latT l k v=((Zg l).filter (P8_u k v)).getLast?:=by
 suffices h:∀ (l out:List It),Srt out→l.foldl (lat1 k v) ((out.filter (P8_u k v)).getLast?)=((l.foldl Tw out).filter (P8_u k v)).getLast? from h l [] List.Pairwise.nil
 intro l
 induction l with
 | nil=>intro out h;rfl
 | cons x l ih=>intro out h;rw [List.foldl_cons,lat1_eq h,ih _ (q9k h x),List.foldl_cons]
def rotF (f:Nat→It) (a m b t:Nat):It:=if a≤t∧t<a+(b - m) then f (t+(m - a)) else if a+(b - m)≤t∧t<b then f (t - (b - m)) else f t
def swrF (f:Nat→It) (a b n t:Nat):It:=if a≤t∧t<a+n then f (t+(b - a)) else if b≤t∧t<b+n then f (t - (b - a)) else f t
structure Swr (a b n:Nat) (d d':Array It):Prop where
 size:d'.size=d.size
 at_:∀ t,d'[t]! = swrF (fun i=>d[i]!) a b n t
structure RotTo (a m b i j:Nat) (d dk:Array It):Prop where
 size:dk.size=d.size
 at_:∀ t,rotF (fun x=>dk[x]!) (m - i) m (m+j) t=rotF (fun x=>d[x]!) a m b t
theorem RotTo.lt {a m b i j:Nat} {d dk d2:Array It} (h:RotTo a m b i j d dk) (hij:i<j) (him:i≤m) (s:Swr (m - i) (m+j - i) i dk d2):RotTo a m b i (j - i) d d2:=by
 refine ⟨s.size.trans h.size,fun t=>?_⟩
 rw [← h.at_ t]
 unfold rotF
 simp only [s.at_,swrF]
 repeat' split
 all_goals first | rfl | (exfalso;omega) | (congr 1;omega) | (congr 2;omega)
def Cls (d d':Array It):Prop:=∀ k v,d'.toList.filter (atS k v)=d.toList.filter (atS k v)
def SrtI (a b:Nat) (d:Array It):Prop:=∀ i j,a≤i→i<j→j<b→leT d[i]! d[j]!
theorem SrtI.le {a b:Nat} {d:Array It} (h:SrtI a b d) {i j:Nat} (h1:a≤i) (h2:i≤j) (h3:j<b):leT d[i]! d[j]!:=by
 by_cases e:i=j
 ·subst e;exact q8q _
 ·exact h i j h1 (by omega) h3
structure Mrg (a b:Nat) (d d':Array It):Prop where
 size:d'.size=d.size
 out:∀ t,t<a∨b≤t→d'[t]! = d[t]!
 mem:∀ t,a≤t→t<b→∃ s,a≤s∧s<b∧d'[t]! = d[s]!
 cls:Cls d d'
theorem Mrg.refl (a b:Nat) (d:Array It):Mrg a b d d:=⟨rfl,fun _ _=>rfl,fun t h1 h2=>⟨t,h1,h2,rfl⟩,fun _ _=>rfl⟩
theorem Mrg.trans {a b:Nat} {d e f:Array It} (h:Mrg a b d e) (g:Mrg a b e f):Mrg a b d f :=
 ⟨g.size.trans h.size,fun t ht=>(g.out t ht).trans (h.out t ht),fun t h1 h2=>by
  obtain ⟨s,s1,s2,e1⟩:=g.mem t h1 h2
  obtain ⟨r,r1,r2,e2⟩:=h.mem s s1 s2
  exact ⟨r,r1,r2,e1.trans e2⟩,fun k v=>(g.cls k v).trans (h.cls k v)⟩
theorem Mrg.mono {a b a' b':Nat} {d e:Array It} (h:Mrg a b d e) (ha:a'≤a) (hb:b≤b'):Mrg a' b' d e :=
 ⟨h.size,fun t ht=>h.out t (by omega),fun t h1 h2=>by
  by_cases c:a≤t∧t<b
  ·obtain ⟨s,s1,s2,e1⟩:=h.mem t c.1 c.2
   exact ⟨s,by omega,by omega,e1⟩
  ·exact ⟨t,h1,h2,h.out t (by omega)⟩,h.cls⟩
theorem lt_le {x y z:It} (h:ltT x y) (g:leT y z):ltT x z:=by unfold ltT leT at *;omega
theorem le_lt {x y z:It} (h:leT x y) (g:ltT y z):ltT x z:=by unfold ltT leT at *;omega
structure Cut (a m b mid st:Nat) (d:Array It):Prop where
 lo:a≤st
 le:st≤mid
 lm:st≤m
 hi:mid+m≤st+b
 h1:st=a∨mid+m=st+b∨¬ ltT d[mid+m - st]! d[st - 1]!
 h2:st=m∨st=mid∨ltT d[mid+m - 1 - st]! d[st]!
theorem Cut.lt {a m b mid st:Nat} {d:Array It} (c:Cut a m b mid st d) (ham:a≤m) (hmb:m≤b) (hl:SrtI a m d) (hr:SrtI m b d) :
  ∀ i j,st≤i→i<m→m≤j→j<mid+m - st→ltT d[j]! d[i]!:=fun i j i1 i2 j1 j2=>by
 have:=c.lo;have:=c.hi;have:=c.le
 rcases c.h2 with h | h | h
 ·omega
 ·omega
 ·exact lt_le (le_lt (hr.le j1 (show j≤mid+m - 1 - st by omega) (by omega)) h) (hl.le c.lo i1 i2)
end Go.Proofs.YtaccfepnhmgagaaGreatDoor.Mx
namespace Go.Proofs.YtaccfepnhmgagaaGreatDoor.Kp
open Go.RowKit Go.Proofs.YtaccfepnhmgagaaGreatDoor.Mx
set_option linter.unusedVariables false
set_option linter.unusedSimpArgs false
def cfZ (x y:Int):Int:=if x<y then -1 else if y<x then 1 else 0
theorem isNaN_any (x:Int) (w:World):Calls Tryz.prog 127 #[.int .i64 x] w fun e w'=>e = .returned (.bool false)∧w'=w:=by
 go_enter Tryz.func127,Tryz.ntmps127
 go_wp2_with fail
 go_ret
 exact ⟨by simp,rfl⟩
set_option maxHeartbeats 1600000 in
theorem cmp_any (x y:Int) (w:World):Calls Tryz.prog 92 #[.int .i64 x,.int .i64 y] w fun e w'=>e = .returned (.int .i64 (cfZ x y))∧w'=w:=by
 go_enter Tryz.func92,Tryz.ntmps92
 unfold cfZ
 by_cases h1:x<y
 ·go_wp2_with (go_at_call 127;refine (isNaN_any _ _).mono ?_;rintro e w' ⟨rfl,rfl⟩)
  go_ret
  exact ⟨by simp [h1],rfl⟩
 ·by_cases h2:y<x
  ·go_wp2_with (go_at_call 127;refine (isNaN_any _ _).mono ?_;rintro e w' ⟨rfl,rfl⟩)
   go_ret
   exact ⟨by simp [h1,h2],rfl⟩
  ·go_wp2_with (go_at_call 127;refine (isNaN_any _ _).mono ?_;rintro e w' ⟨rfl,rfl⟩)
   go_ret
   exact ⟨by simp [h1,h2],rfl⟩
end Go.Proofs.YtaccfepnhmgagaaGreatDoor.Kp
namespace Go.Proofs.YtaccfepnhmgagaaGreatDoor.Kp
open Go.RowKit Go.Proofs.YtaccfepnhmgagaaGreatDoor.Mx Go.Proofs.YtaccfepnhmgagaaGreatDoor.Dr
set_option linter.unusedVariables false
set_option linter.unusedSimpArgs false
theorem cells3 {w:World} {b:Nat} {T:TypeId} {x0 x1 x2:Value} (h:w.heap[b]? = some (.cells #[x0,x1,x2] T (0,0))):w.cell? ⟨b,0,none⟩=some x0∧w.cell? ⟨b,1,none⟩=some x1∧w.cell? ⟨b,2,none⟩=some x2:=by
 refine ⟨?_,?_,?_⟩ <;> (unfold World.cell?;simp [h])
end Go.Proofs.YtaccfepnhmgagaaGreatDoor.Kp
namespace Go.Proofs.YtaccfepnhmgagaaGreatDoor.Kp
open Go.RowKit Go.Shelf Go.Lib Go.Sort Go.Maps Go.Proofs.YtaccfepnhmgagaaGreatDoor.Ar Go.Proofs.YtaccfepnhmgagaaGreatDoor.Mx
def Feeds {α:Type} (n:Nat) (P:Program) (g:Nat) (lb:Array Value) (enc:α→Value) (S:List α→Prop) (N:Nat) (w:World):Prop :=
 ∀ (l:Nat) (J:List α→World→Prop) (W:World),Below w.heap.size w W→AbidesFrom W.heap.size J→(∀ xs W1,J xs W1→Below w.heap.size w W1) →
  (∀ pre x W1,J pre W1→pre.length<N→YieldAt Fence.wide (n - 1) P l #[enc x] W1 fun e W'=>e = .returned (.bool true)∧J (pre++[x]) W'∧KeepsWalks W1 W') →
  J [] W →
  CallsIn Fence.wide n P g (#[.func (.yield l) #[] #[]]++lb) W fun e W'=>(∃ v,e = .returned v)∧∃ xs,S xs∧J xs W'
theorem cells_new (w:World) (vs:Array Value) (T:TypeId):∀ (j:Nat) (u:Value),vs.toList[j]? = some u→(w.alloc (.cells vs T)).cell? ((⟨w.heap.size,0,none⟩:Addr).add j)=some u:=by
 intro j u h
 rw [addr_add,Nat.zero_add]
 unfold World.cell?
 rw [Go.heap_alloc_new]
 simpa using h
end Go.Proofs.YtaccfepnhmgagaaGreatDoor.Kp
namespace Go.Proofs.YtaccfepnhmgagaaGreatDoor.Kp.ApT
open Go.RowKit Go.Shelf Go.Lib Go.Sort Go.Maps Go.Proofs.YtaccfepnhmgagaaGreatDoor.Ar Go.Proofs.YtaccfepnhmgagaaGreatDoor.Mx Go.Proofs.YtaccfepnhmgagaaGreatDoor.Kp
set_option linter.unusedVariables false
set_option linter.unusedSimpArgs false
def enc (x:It):Value:=.agg #[.int .i64 x.k,.int .i64 x.v,.int .i64 x.d]
def assign : Code := Code.region 2 #[{ dst := some 5, op := Op.alloc 65, type := 0, pos := "iter.go:51", after := #[], guard := none }, { dst := none, op := Op.store 65 (Operand.tmp 5) (Operand.tmp 7), type := 0, pos := "iter.go:51", after := #[{ on := 0, ground := Ground.data }, { on := 0, ground := Ground.phase }], guard := none }] false
def body : Code := Code.block 1 (Code.region 3 #[{ dst := some 8, op := Op.load 62 (Operand.tmp 2), type := 62, pos := "iter.go:52", after := #[], guard := none }, { dst := some 9, op := Op.load 65 (Operand.tmp 5), type := 65, pos := "iter.go:52", after := #[], guard := none }, { dst := some 10, op := Op.buildSlice 62 1 #[(0, Operand.tmp 9)], type := 62, pos := "iter.go:52", after := #[{ on := 1, ground := Ground.data }], guard := none }, { dst := some 11, op := Op.call { callee := Callee.builtin Builtin.append, args := #[Operand.tmp 8, Operand.tmp 10], argTypes := #[62, 62] }, type := 62, pos := "iter.go:52", after := #[{ on := 0, ground := Ground.data }, { on := 2, ground := Ground.data }], guard := none }, { dst := none, op := Op.store 62 (Operand.tmp 2) (Operand.tmp 11), type := 0, pos := "iter.go:52", after := #[{ on := 3, ground := Ground.data }, { on := 3, ground := Ground.chain }, { on := 0, ground := Ground.phase }, { on := 1, ground := Ground.phase }, { on := 2, ground := Ground.phase }, { on := 3, ground := Ground.phase }], guard := none }] false)
def rec (fn:FuncId) (sv:Value) (Bs_u D:Nat) (st:LoopState):Loop :=
 { state:=st,pending:=none,fn,tmps:=#[.slice none 0 0,sv,.pointer (some ⟨Bs_u,0,none⟩),undef,.slice none 0 0,undef,sv,undef,undef,undef,undef,undef,undef],params:=#[7],assign:=assign,body:=body,defers:=D }
structure At (w0:World) (fn:FuncId) (sv:Value) (Bs_u l D:Nat) (ss:List It) (W:World):Prop where
 box:∃ v,W.heap[Bs_u]? = some (.cells #[v] 62 (0,0))∧W.ownsRow w0.heap.size 65 3 v ss.length (ss.flatMap fT)
 lp:W.heap[l]? = some (.loop (rec fn sv Bs_u D .ready))
 df:W.heap[D]? = some (.deferred (some []))
 below:Below w0.heap.size w0 W
theorem At.abides (w0:World) (fn:FuncId) (sv:Value) (Bs_u l D B:Nat) (hB:w0.heap.size≤B):AbidesFrom B (At w0 fn sv Bs_u l D):=fun s W W' row h hg hrow=>by
 have hrow':∀ r,row=some r→∃ o:Obj,W.heap[r]? = some o∧o.isWalk=true:=fun r e=>(hrow r e).2
 obtain ⟨v,hv,hr⟩:=h.box
 exact ⟨⟨v,(grownBy_keeps hg hrow' hv rfl).trans hv,ownsRow_abides_a hr hg hrow'⟩,(grownBy_keeps hg hrow' h.lp rfl).trans h.lp,(grownBy_keeps hg hrow' h.df rfl).trans h.df,
  h.below.grown hg h.below.size (fun k e=>qh hB (hrow k e).1)⟩
theorem ne_es {W:World} {base:Nat} {v:Value} {k:Nat} {xs:List Value} {j:Nat} {u:Value} (h:W.ownsRow base 65 3 v k xs) (hj:W.heap[j]? = some (.cells #[u] 62 (0,0))):v.ownBlock=none∨v.ownBlock≠some j :=
 ownsRow_ne_a h hj (fun cur e=>absurd (Obj.cells.inj e).2.1 (by decide))
theorem ne_lp {W:World} {base:Nat} {v:Value} {k:Nat} {xs:List Value} {j:Nat} {r:Loop} (h:W.ownsRow base 65 3 v k xs) (hj:W.heap[j]? = some (.loop r)):v.ownBlock=none∨v.ownBlock≠some j :=
 ownsRow_ne_a h hj (fun cur e=>by cases e)
theorem ne_df {W:World} {base:Nat} {v:Value} {k:Nat} {xs:List Value} {j:Nat} {r:Option (List Deferred)} (h:W.ownsRow base 65 3 v k xs) (hj:W.heap[j]? = some (.deferred r)):v.ownBlock=none∨v.ownBlock≠some j :=
 ownsRow_ne_a h hj (fun cur e=>by cases e)
theorem some_ne {v:Value} {j:Nat} (h:v.ownBlock=none∨v.ownBlock≠some j):some j≠v.ownBlock:=by
 rcases h with e | e
 ·rw [e];simp
 ·exact fun e'=>e e'.symm
set_option maxRecDepth 100000 in
set_option maxHeartbeats 3200000 in
theorem round (m:Nat) (w0:World) (fn:FuncId) (sv:Value) (Bs_u l D:Nat) (hBl:Bs_u≠l) (hDl:D≠l) (hDB:D≠Bs_u) (h0B:w0.heap.size≤Bs_u) (h0l:w0.heap.size≤l) (ss:List It) (x:It) (W:World) (h:At w0 fn sv Bs_u l D ss W) (hlen:ss.length<1000) :
  YieldAt Fence.wide m Tryz.prog l #[enc x] W fun e W'=>e = .returned (.bool true)∧At w0 fn sv Bs_u l D (ss++[x]) W'∧KeepsWalks W W':=by
 obtain ⟨i0,hi,hz0,hz1,hz2⟩:=info_parts itI
 refine ⟨fn,#[.slice none 0 0,sv,.pointer (some ⟨Bs_u,0,none⟩),undef,.slice none 0 0,undef,sv,enc x,undef,undef,undef,undef,undef],assign,body,by simpa [rec] using run_yield (P:=Tryz.prog) (args:=#[enc x]) h.lp rfl,roundIn_of_wpIn trivial ?_⟩
 obtain ⟨W1,hW1⟩:∃ W1,W.alloc (.cells #[.int .i64 x.k,.int .i64 x.v,.int .i64 x.d] 65)=W1:=⟨_,rfl⟩
 have h1:At w0 fn sv Bs_u l D ss W1:=by rw [← hW1];exact At.abides w0 fn sv Bs_u l D w0.heap.size (Nat.le_refl _) ss W _ none h (World.grownBy_alloc W _ none) (fun r e=>by cases e)
 have hk1:KeepsWalks W W1:=by rw [← hW1];exact KeepsWalks.alloc _ _
 have hc1:W1.heap[W.heap.size]? = some (.cells #[.int .i64 x.k,.int .i64 x.v,.int .i64 x.d] 65 (0,0)):=by rw [← hW1];exact Go.heap_alloc_new _ _
 obtain ⟨v,hv,hrow⟩:=h1.box
 have hl:l<W1.heap.size:=(Array.getElem?_eq_some_iff.1 h1.lp).1
 have hbr:=run_beginRound (P:=Tryz.prog) h1.lp rfl
 obtain ⟨W5,hW2⟩:∃ W2,W1.putObj l (.loop { rec fn sv Bs_u D .ready with state:=.busy })=W2:=⟨_,rfl⟩
 rw [hW2] at hbr
 have hg2:W1.grownBy W5 (some l):=by rw [← hW2];exact grownBy_putObj_a _ _ _
 have hk5:KeepsWalks W W5:=hk1.trans (by rw [← hW2];exact KeepsWalks.putObj _ h1.lp rfl)
 have hv5:W5.heap[Bs_u]? = some (.cells #[v] 62 (0,0)):=by rw [← hW2];exact (World.putObj_heap_other hBl).trans hv
 have hK5:W5.heap[D]? = some (.deferred (some [])):=by rw [← hW2];exact (World.putObj_heap_other hDl).trans h1.df
 have hL5:W5.heap[l]? = some (.loop { rec fn sv Bs_u D .ready with state:=.busy }):=by rw [← hW2];exact World.putObj_heap_same hl
 have hrow5:=hrow.kept hg2 (ne_lp hrow h1.lp)
 have hb5:Below w0.heap.size w0 W5:=h1.below.grown hg2 h1.below.size (fun k e=>by cases e;exact h0l)
 have hc5:W5.heap[W.heap.size]? = some (.cells #[.int .i64 x.k,.int .i64 x.v,.int .i64 x.d] 65 (0,0)):=by
  rw [← hW2];exact (World.putObj_heap_other (fun e=>by rw [e,h1.lp] at hc1;cases hc1)).trans hc1
 obtain ⟨c50,c51,c52⟩:=cells3 hc5
 clear hW2
 obtain ⟨hc2,hf2⟩:=cell_of_box_a hv5
 have hBlt:Bs_u<W5.heap.size:=(Array.getElem?_eq_some_iff.1 hv5).1
 have hl5:l<W5.heap.size:=(Array.getElem?_eq_some_iff.1 hL5).1
 have hDlt:D<W5.heap.size:=(Array.getElem?_eq_some_iff.1 hK5).1
 unfold assign enc
 gi_wp2_with gi_round_op_a
 unfold body
 gi_wp2_with (first
  | (
    gi_at_builtin;refine wpListIn_append_own _ rfl _ _ 62 rfl w0.heap.size 65 i0 _ 3 24 Tryz.underlying62 hi hz0 hz1 hz2 rfl (by decide) _ _ _ rfl (hrow5.alloc _) ⟨W5.heap.size,0,none⟩ 1 1 [.int .i64 x.k,.int .i64 x.v,.int .i64 x.d] rfl rfl (cells_new _ _ _) (by simp [Value.oneCell']) (by unfold maxLen;omega) (by omega) (by have:=hb5.size;simp;omega) ?_;intro v' w3 hown' hg3 hnil3
    have hv3:w3.heap[Bs_u]? = some (.cells #[v] 62 (0,0)):=(hg3.block Bs_u (by simp;omega) (some_ne (ne_es hrow5 hv5))).trans ((Below.heap_alloc _ _ Bs_u hBlt).trans hv5)
    obtain ⟨hc3,hf3⟩:=cell_of_box_a hv3
    obtain ⟨g',cap',cur',rfl,hbase',hgb',hr1,hr2,hr3,hr4⟩:∃ g' cap' cur',v' = .slice (some ⟨g',0,none⟩) (ss.length+1) cap'∧w0.heap.size≤g'∧w3.heap[g']? = some (.cells cur' 65 (0,0))∧ss.length+1≤cap'∧cap'≤maxLen∧cur'.size=cap' * 3∧cur'.toList.take ((ss.length+1) * 3)=ss.flatMap fT++[.int .i64 x.k,.int .i64 x.v,.int .i64 x.d]:=by
     rcases hown'.2 with ⟨_,h0⟩ | h'
     ·exact absurd h0 (by omega)
     ·exact h'
    go_frame)
  | gi_round_op_a)
 have hg3':(W5.alloc (.cells #[.int .i64 x.k,.int .i64 x.v,.int .i64 x.d] 65)).grownBy w3 v.ownBlock:=hg3
 have hL3:w3.heap[l]? = some (.loop { rec fn sv Bs_u D .ready with state:=.busy }):=(hg3'.block l (by simp;omega) (some_ne (ne_lp hrow5 hL5))).trans ((Below.heap_alloc _ _ l hl5).trans hL5)
 have hK3:w3.heap[D]? = some (.deferred (some [])):=(hg3'.block D (by simp;omega) (some_ne (ne_df hrow5 hK5))).trans ((Below.heap_alloc _ _ D hDlt).trans hK5)
 obtain ⟨w4,hw4⟩:∃ w4,w3.setCell ⟨Bs_u,0,none⟩ (.slice (some ⟨g',0,none⟩) (ss.length+1) cap')=w4:=⟨_,rfl⟩
 rw [hw4]
 have hg4:w3.grownBy w4 (some Bs_u):=by rw [← hw4];exact grownBy_setCell0_a _ _ _
 have hv4:w4.heap[Bs_u]? = some (.cells #[.slice (some ⟨g',0,none⟩) (ss.length+1) cap'] 62 (0,0)):=by rw [← hw4];exact heap_setCell_box_a _ hv3
 have hL4:w4.heap[l]? = some (.loop { rec fn sv Bs_u D .ready with state:=.busy }):=(hg4.block l (Array.getElem?_eq_some_iff.1 hL3).1 (fun e=>hBl (by cases e;rfl))).trans hL3
 have hK4:w4.heap[D]? = some (.deferred (some [])):=(hg4.block D (Array.getElem?_eq_some_iff.1 hK3).1 (fun e=>hDB (by cases e;rfl))).trans hK3
 have hrow4:=hown'.kept hg4 (ne_es hown' hv3)
 have hl4:l<w4.heap.size:=(Array.getElem?_eq_some_iff.1 hL4).1
 have hb3:Below w0.heap.size w0 w3:=(hb5.alloc hb5.size _).grown hg3' (by have:=hb5.size;simp;omega) (fun k e=>(hrow5.lt k e).1)
 have hb4:Below w0.heap.size w0 w4:=hb3.grown hg4 hb3.size (fun k e=>by cases e;exact h0B)
 have hk4:KeepsWalks W w4:=((hk5.trans (KeepsWalks.alloc _ _)).trans (KeepsWalks.of_grownBy hg3' (ownsRow_not_walk_a (hrow5.alloc _)))).trans (by rw [← hw4];exact KeepsWalks.setCell _ _ _)
 clear hw4
 have hrow6:=hrow4.kept (grownBy_putObj_a w4 l (.loop { { rec fn sv Bs_u D .ready with state:=.busy } with state:=.ready,pending:=none })) (ne_lp hrow4 hL4)
 refine ⟨_,_,run_endRound none hL4,rfl,⟨⟨_,(World.putObj_heap_other hBl).trans hv4,?_⟩,World.putObj_heap_same hl4,(World.putObj_heap_other hDl).trans hK4,hb4.grown (grownBy_putObj_a _ _ _) hb4.size (fun k e=>by cases e;exact h0l)⟩,hk4.trans (KeepsWalks.putObj _ hL4 rfl)⟩
 rw [List.length_append,List.flatMap_append]
 simpa [fT] using hrow6
set_option maxRecDepth 100000 in
set_option maxHeartbeats 2000000 in
theorem appendSeq (n:Nat) (hn:2≤n) (g:Nat) (lb:Array Value) (eg:∀ args w,(callFunc g args).run Tryz.prog w = .ok (.enter g args) w) (S:List It→Prop) (N:Nat) (hN:N≤1000) (w:World) (hseq:Feeds (n - 1) Tryz.prog g lb enc S N w) :
  CallsIn Fence.wide n Tryz.prog 146 #[.slice none 0 0,.func (.func g) #[] lb] w fun e w'=>∃ (v:Value) (ss:List It),e = .returned v∧S ss∧w'.ownsRow w.heap.size 65 3 v ss.length (ss.flatMap fT)∧Below w.heap.size w w':=by
 have h1:1≤n:=by omega
 have hro:Fence.wide.round=none:=rfl
 refine callsIn_of_wp_marks Tryz.func146 rfl trivial ?_ hro
 simp only [Tryz.ntmps146,List.size_toArray,List.length_cons,List.length_nil,Nat.reduceAdd,Nat.reduceSub,Array.replicate_succ,Array.replicate_zero,List.push_toArray,List.append_toArray,List.nil_append,List.cons_append]
 gi_wp2
 refine wpIn_rangeFunc ?_
 intro fn hfn
 rw [hro]
 obtain ⟨W0,hW0⟩:∃ W0,w.alloc (.cells #[.slice none 0 0] 62)=W0:=⟨_,rfl⟩
 have hs0:W0.heap.size=w.heap.size+1:=by rw [← hW0];simp
 have hv0:W0.heap[w.heap.size]? = some (.cells #[.slice none 0 0] 62 (0,0)):=by rw [← hW0];exact World.alloc_heap_new w _
 have hb0:Below w.heap.size w W0:=by rw [← hW0];exact (Below.refl _ w).alloc (Nat.le_refl _) _
 rw [hW0]
 obtain ⟨W1,hW1⟩:∃ W1,(W0.alloc (.deferred (some []))).alloc (.loop (rec fn (.func (.func g) #[] lb) w.heap.size W0.heap.size .ready))=W1:=⟨_,rfl⟩
 have hold:∀ k,k<W0.heap.size→W1.heap[k]? = W0.heap[k]?:=fun k hk=>by
  rw [← hW1];exact (Below.heap_alloc _ _ k (by simp;omega)).trans (Below.heap_alloc _ _ k hk)
 have hb1:Below w.heap.size w W1:=by rw [← hW1];exact (hb0.alloc hb0.size _).alloc (by have:=hb0.size;simp;omega) _
 have hs1:W1.heap.size=W0.heap.size+2:=by rw [← hW1];simp
 have hM:At w fn (.func (.func g) #[] lb) w.heap.size (W0.heap.size+1) W0.heap.size [] W1 :=
  ⟨⟨_,(hold w.heap.size (by omega)).trans hv0,⟨rfl,.inl ⟨rfl,rfl⟩⟩⟩,
   by rw [← hW1];have:=World.alloc_heap_new (W0.alloc (.deferred (some []))) (.loop (rec fn (.func (.func g) #[] lb) w.heap.size W0.heap.size .ready));rwa [World.size_alloc] at this,
   by rw [← hW1];exact (Below.heap_alloc _ _ _ (by simp)).trans (World.alloc_heap_new W0 _),hb1⟩
 refine ⟨W0.heap.size+1,[{ target:=.collected W0.heap.size,args:=#[] }],W1,{ target:=.fn (.func g) lb,args:=#[.func (.yield (W0.heap.size+1)) #[] #[]] },W1,g,
  #[.func (.yield (W0.heap.size+1)) #[] #[]]++lb,W1,?_,?_,?_,?_,fun _=>h1,?_⟩
 ·rw [← hW1];exact run_enterLoop_outer _ _ _ _ _
 ·simp [resolve,go_sem]
 ·intro f' hf';trivial
 ·simp [invoke,go_sem,eg]
 ·refine (hseq (W0.heap.size+1) (At w fn (.func (.func g) #[] lb) w.heap.size (W0.heap.size+1) W0.heap.size) W1 hb1 (At.abides _ _ _ _ _ _ _ hb1.size) (fun xs W h=>h.below)
   (fun pre x W hJ hl=>round (n - 1 - 1) w fn _ w.heap.size (W0.heap.size+1) W0.heap.size (by omega) (by omega) (by omega) (Nat.le_refl _) (by omega) pre x W hJ (by omega)) hM).mono ?_
  rintro e W2 ⟨⟨v0,rfl⟩,ss,hS,h2⟩
  obtain ⟨v,hv,hrow⟩:=h2.box
  have hend:=run_endLoop (P:=Tryz.prog) h2.lp (by simp [rec])
  obtain ⟨W3,hW3⟩:∃ W3,W2.putObj (W0.heap.size+1) (.loop { rec fn (.func (.func g) #[] lb) w.heap.size W0.heap.size .ready with state:=.exhausted })=W3:=⟨_,rfl⟩
  rw [hW3] at hend
  have hg3:W2.grownBy W3 (some (W0.heap.size+1)):=by rw [← hW3];exact grownBy_putObj_a _ _ _
  have hv3:W3.heap[w.heap.size]? = some (.cells #[v] 62 (0,0)):=by rw [← hW3];exact (World.putObj_heap_other (by omega)).trans hv
  have hK3:W3.heap[W0.heap.size]? = some (.deferred (some [])):=by rw [← hW3];exact (World.putObj_heap_other (by omega)).trans h2.df
  have hrow3:=hrow.kept hg3 (ne_lp hrow h2.lp)
  have hb3:Below w.heap.size w W3:=h2.below.grown hg3 h2.below.size (fun k e=>by cases e;omega)
  obtain ⟨hc3,hf3⟩:=cell_of_box_a hv3
  clear hW3
  refine ⟨none,W3,hend,?_⟩
  gi_wp2
  rw [← hs0]
  refine ⟨by simp,.inl ⟨_,_,rfl,run_takeDeferred hK3,?_⟩⟩
  exact ⟨_,results_tmp rfl _ _ _,v,ss,rfl,hS,hrow3.kept (grownBy_putObj_a _ _ _) (ne_df hrow3 hK3),hb3.grown (grownBy_putObj_a _ _ _) hb3.size (fun k e=>by cases e;omega)⟩
set_option maxHeartbeats 1000000 in
theorem collect (n:Nat) (hn:3≤n) (g:Nat) (lb:Array Value) (eg:∀ args w,(callFunc g args).run Tryz.prog w = .ok (.enter g args) w) (S:List It→Prop) (N:Nat) (hN:N≤1000) (w:World) (hseq:Feeds (n - 1 - 1) Tryz.prog g lb enc S N w) :
  CallsIn Fence.wide n Tryz.prog 124 #[.func (.func g) #[] lb] w fun e w'=>∃ (v:Value) (ss:List It),e = .returned v∧S ss∧w'.ownsRow w.heap.size 65 3 v ss.length (ss.flatMap fT)∧Below w.heap.size w w':=by
 have h1:1≤n:=by omega
 have eA:∀ args w,(callFunc 146 args).run Tryz.prog w = .ok (.enter 146 args) w:=enters_of Tryz.func146 (by kernel_rfl) rfl
 have hF:Fence.wide.fn 146:=trivial
 refine callsIn_of_wp Tryz.func124 rfl trivial ?_ rfl
 simp only [Tryz.ntmps124,List.size_toArray,List.length_cons,List.length_nil,Nat.reduceAdd,Nat.reduceSub,Array.replicate_succ,Array.replicate_zero,List.push_toArray,List.append_toArray,List.nil_append,List.cons_append]
 gi_wp2_with (gi_at_fn 146;refine (appendSeq (n - 1) (by omega) g lb eg S N hN _ hseq).mono ?_;rintro e w' ⟨v,ss,rfl,hS,hrow,hb⟩)
 go_ret
 exact ⟨v,ss,rfl,hS,hrow,hb⟩
end Go.Proofs.YtaccfepnhmgagaaGreatDoor.Kp.ApT
namespace Go.Proofs.YtaccfepnhmgagaaGreatDoor.Kp.ApT
open Go.RowKit Go.Shelf Go.Lib Go.Sort Go.Maps Go.Proofs.YtaccfepnhmgagaaGreatDoor.Ar Go.Proofs.YtaccfepnhmgagaaGreatDoor.Mx Go.Proofs.YtaccfepnhmgagaaGreatDoor.Kp
set_option linter.unusedVariables false
set_option linter.unusedSimpArgs false
theorem fr_of {w w':World} (h:Below w.heap.size w w'):Fr [] w w':=⟨h.os,h.tape,h.output,h.size,fun k hk _=>h.block k hk⟩
end Go.Proofs.YtaccfepnhmgagaaGreatDoor.Kp.ApT
namespace Go.Proofs.YtaccfepnhmgagaaGreatDoor.Kp.ApI
open Go.RowKit Go.Shelf Go.Lib Go.Sort Go.Maps Go.Proofs.YtaccfepnhmgagaaGreatDoor.Ar Go.Proofs.YtaccfepnhmgagaaGreatDoor.Mx Go.Proofs.YtaccfepnhmgagaaGreatDoor.Kp
set_option linter.unusedVariables false
set_option linter.unusedSimpArgs false
def assign : Code := Code.region 2 #[{ dst := some 5, op := Op.assign (Operand.tmp 7), type := 3, pos := "iter.go:51", after := #[], guard := none }] false
def body : Code := Code.block 1 (Code.region 3 #[{ dst := some 8, op := Op.load 25 (Operand.tmp 2), type := 25, pos := "iter.go:52", after := #[], guard := none }, { dst := some 9, op := Op.move (Operand.tmp 5), type := 3, pos := "iter.go:52", after := #[], guard := none }, { dst := some 10, op := Op.buildSlice 25 1 #[(0, Operand.tmp 9)], type := 25, pos := "iter.go:52", after := #[{ on := 1, ground := Ground.data }], guard := none }, { dst := some 11, op := Op.call { callee := Callee.builtin Builtin.append, args := #[Operand.tmp 8, Operand.tmp 10], argTypes := #[25, 25] }, type := 25, pos := "iter.go:52", after := #[{ on := 0, ground := Ground.data }, { on := 2, ground := Ground.data }], guard := none }, { dst := none, op := Op.store 25 (Operand.tmp 2) (Operand.tmp 11), type := 0, pos := "iter.go:52", after := #[{ on := 3, ground := Ground.data }, { on := 3, ground := Ground.chain }, { on := 0, ground := Ground.phase }, { on := 1, ground := Ground.phase }, { on := 2, ground := Ground.phase }, { on := 3, ground := Ground.phase }], guard := none }] false)
def rec (fn:FuncId) (sv:Value) (Bs_u D:Nat) (st:LoopState):Loop :=
 { state:=st,pending:=none,fn,tmps:=#[.slice none 0 0,sv,.pointer (some ⟨Bs_u,0,none⟩),undef,.slice none 0 0,undef,sv,undef,undef,undef,undef,undef,undef],params:=#[7],assign:=assign,body:=body,defers:=D }
structure At (w0:World) (fn:FuncId) (sv:Value) (Bs_u l D:Nat) (ss:List Int) (W:World):Prop where
 box:∃ v,W.heap[Bs_u]? = some (.cells #[v] 25 (0,0))∧W.ownsRow w0.heap.size 3 1 v ss.length (ss.flatMap fI)
 lp:W.heap[l]? = some (.loop (rec fn sv Bs_u D .ready))
 df:W.heap[D]? = some (.deferred (some []))
 below:Below w0.heap.size w0 W
theorem At.abides (w0:World) (fn:FuncId) (sv:Value) (Bs_u l D B:Nat) (hB:w0.heap.size≤B):AbidesFrom B (At w0 fn sv Bs_u l D):=fun s W W' row h hg hrow=>by
 have hrow':∀ r,row=some r→∃ o:Obj,W.heap[r]? = some o∧o.isWalk=true:=fun r e=>(hrow r e).2
 obtain ⟨v,hv,hr⟩:=h.box
 exact ⟨⟨v,(grownBy_keeps hg hrow' hv rfl).trans hv,ownsRow_abides_a hr hg hrow'⟩,(grownBy_keeps hg hrow' h.lp rfl).trans h.lp,(grownBy_keeps hg hrow' h.df rfl).trans h.df,
  h.below.grown hg h.below.size (fun k e=>qh hB (hrow k e).1)⟩
end Go.Proofs.YtaccfepnhmgagaaGreatDoor.Kp.ApI
namespace Go.Proofs.YtaccfepnhmgagaaGreatDoor.Kp
open Go.RowKit Go.Shelf Go.Lib Go.Sort Go.Maps Go.Proofs.YtaccfepnhmgagaaGreatDoor.Ar Go.Proofs.YtaccfepnhmgagaaGreatDoor.Mx
set_option linter.unusedVariables false
set_option linter.unusedSimpArgs false
theorem get_flat (xs:List It):∀ (i c:Nat) (x:It),xs[i]? = some x→c<3→(xs.flatMap fT)[i * 3+c]? = (fT x)[c]?:=fun i c x hx hc=>zh.at hx hc
theorem holds_row {w:World} {b:Nat} {cur:Array Value} {T:TypeId} {xs:List It} (hb:w.heap[b]? = some (.cells cur T (0,0))) (ht:cur.toList.take (xs.length * 3)=xs.flatMap fT):HoldsK fT 3 w b 0 xs.toArray:=by
 intro t ht2
 simp only [size_flatK,List.size_toArray] at ht2
 have hlen:=zh.flat xs
 obtain ⟨x,hx⟩:∃ x,xs[t / 3]? = some x:=⟨xs[t / 3]'(by omega),List.getElem?_eq_getElem _⟩
 have h1:=get_flat xs (t / 3) (t % 3) x hx (Nat.mod_lt _ (by omega))
 rw [show t / 3 * 3+t % 3=t by omega] at h1
 have h2:cur.toList[t]? = (fT x)[t % 3]?:=by
  rw [← h1,← ht,List.getElem?_take,qf ht2]
 have h3:(flatK fT 3 xs.toArray)[t]! = (fT x)[t % 3]!:=by
  rw [get_flatK _ _ _ _ (by simpa using ht2)]
  congr 1
  simp [hx]
 have h4:(fT x)[t % 3]? = some ((fT x)[t % 3]!):=by
  have:t % 3<(fT x).length:=by show _<3;omega
  simp [this]
 rw [h3]
 simp only [Nat.zero_add,id]
 constructor
 ·unfold World.cell?
  rw [hb]
  have:=h2.trans h4
  simp at this ⊢
  exact this
 ·unfold World.frozen?
  rw [hb]
  simp
theorem flat_flatK (d:Array It):(flatK fT 3 d).toList=d.toList.flatMap fT:=by
 have hlen:=zh.flat d.toList
 apply List.ext_getElem?
 intro t
 by_cases ht:t<d.size * 3
 ·obtain ⟨x,hx⟩:∃ x,d.toList[t / 3]? = some x:=⟨d.toList[t / 3]'(by simp;omega),List.getElem?_eq_getElem _⟩
  have h1:=get_flat d.toList (t / 3) (t % 3) x hx (Nat.mod_lt _ (by omega))
  rw [show t / 3 * 3+t % 3=t by omega] at h1
  rw [h1,Array.getElem?_toList]
  have h3:(flatK fT 3 d)[t]! = (fT x)[t % 3]!:=by
   rw [get_flatK _ _ _ _ ht]
   rw [Array.getElem?_toList] at hx
   have hx2:d[t / 3]! = x:=by rw [getElem!_def,hx]
   rw [hx2]
  have h4:(fT x)[t % 3]? = some ((fT x)[t % 3]!):=by
   have:t % 3<(fT x).length:=by show _<3;omega
   simp [this]
  rw [h4,← h3]
  have hz:t<(flatK fT 3 d).size:=by simpa using ht
  rw [getElem!_pos _ t hz]
  exact Array.getElem?_eq_getElem hz
 ·rw [List.getElem?_eq_none (by simp;omega),List.getElem?_eq_none (by rw [hlen];simp;omega)]
theorem own_swk {w0 w':World} {base b cap:Nat} {cur:Array Value} {E:TypeId} {n:Nat} {d':Array It} (hbase:base≤b) (hb:w0.heap[b]? = some (.cells cur E (0,0))) (h1:n≤cap) (h2:cap≤maxLen) (h3:cur.size=cap * 3) (S:SWK fT 3 w0 b 0 d' w') (hs:d'.size=n) :
  w'.ownsRow base E 3 (.slice (some ⟨b,0,none⟩) n cap) n (d'.toList.flatMap fT)∧Fr [b] w0 w':=by
 obtain ⟨m,os,rfl⟩:=S
 have hg:b<w0.heap.size:=(Array.getElem?_eq_some_iff.1 hb).1
 refine ⟨⟨by rw [zh.flat];simp [hs],.inr ⟨b,cap,putCells id 0 (flatK fT 3 d') cur,rfl,hbase,?_,h1,h2,by simp [putCells,h3],?_⟩⟩,?_⟩
 ·unfold sortWorldK putRowK
  rw [heap_grow_old _ _ (by simpa using hg)]
  simp [putRow,mapBlock,Sort.ahead,Array.getElem?_modify,hb,onCells]
 ·rw [← flat_flatK]
  have hz:(flatK fT 3 d').size=n * 3:=by simp [hs]
  generalize flatK fT 3 d'=F at *
  have hcap:n * 3≤cur.size:=by omega
  apply List.ext_getElem?
  intro j
  by_cases hj:j<n * 3
  ·rw [List.getElem?_take_of_lt hj,Array.getElem?_toList,Array.getElem?_toList]
   simp [putCells,hz,hj,show j<cur.size by omega]
  ·rw [List.getElem?_take_eq_none (by omega),List.getElem?_eq_none (by simp [hz];omega)]
 ·unfold sortWorldK putRowK
  refine ⟨rfl,rfl,rfl,by simp,fun k hk hne=>?_⟩
  rw [heap_grow_old _ _ (by simpa using hk)]
  have:b≠k:=fun e=>hne (by rw [e];simp)
  simp [putRow,mapBlock,Sort.ahead,Array.getElem?_modify,this]
theorem rowK_of {w:World} {b:Nat} {cur:Array Value} {T:TypeId} {xs:List It} (hb:w.heap[b]? = some (.cells cur T (0,0))) (ht:cur.toList.take (xs.length * 3)=xs.flatMap fT):RowK fT 3 w b 0 xs.toArray :=
 ⟨fun _=>rfl,fun x u hu=>zh.one x u hu,holds_row hb ht,(Array.getElem?_eq_some_iff.1 hb).1⟩
end Go.Proofs.YtaccfepnhmgagaaGreatDoor.Kp
namespace Go.Proofs.YtaccfepnhmgagaaGreatDoor.Pick
open Go.RowKit Go.Proofs.YtaccfepnhmgagaaGreatDoor.Ar Go.Proofs.YtaccfepnhmgagaaGreatDoor.Ref Go.Proofs.YtaccfepnhmgagaaGreatDoor.Mx Go.Proofs.YtaccfepnhmgagaaGreatDoor.Rf Go.Proofs.YtaccfepnhmgagaaGreatDoor.Ch
set_option linter.unusedVariables false
set_option linter.unusedSimpArgs false
def PickOk (c:Cf) (len:Nat) (k:Int):Prop:=0≤k∧k+7+3 * c.c≤len
theorem fN_map (L:List Int):L.flatMap fN=L.map (fun x=>Value.int .i64 x):=by
 induction L with
 | nil=>rfl
 | cons x r ih=>rw [List.flatMap_cons,ih];rfl
theorem fN_get {L:List Int} {k:Nat} {x:Int} (h:L[k]? = some x):(L.flatMap fN)[k]? = some (.int .i64 x):=by
 rw [fN_map,List.getElem?_map,h];rfl
theorem told_ok {c:Cf} {n len:Nat} {L:List Int} (hn:c.c=n) (h:Ch.Told len n L) {k:Nat} {x:Int} (hx:L[k]? = some x):PickOk c len x:=by
 have:=h.2 x (List.mem_of_getElem? hx)
 unfold Vw.Za at this
 simp only [Bool.and_eq_true,decide_eq_true_eq] at this
 unfold PickOk
 omega
set_option maxRecDepth 100000 in
set_option maxHeartbeats 1600000 in
theorem q98 (c:Cf) (hc:c.Ok) (i:Int) (hi:0≤i∧i≤255) (p q:Nat) (s:St) (w:World) (hA:Rar w p q s) (hl:(s.l.length:Int)=c.wd) :
  Calls Tryz.prog 29 #[c.val,.pointer (some ⟨p,0,none⟩),.int .u8 i] w fun e w'=>(∃ k,e = .returned (.int .i64 k)∧PickOk c s.l.length k)∧Fr [] w w':=by
 have F0:=(Fr.refl [] w).alloc (.cells #[.int .i64 c.t,.int .i64 c.c,.int .i64 c.wd,.int .i64 c.v] 23)
 have o1:=Ob.new w 23 #[.int .i64 c.t,.int .i64 c.c,.int .i64 c.wd,.int .i64 c.v]
 obtain ⟨n,hn⟩:∃ n:Nat,c.c=n:=⟨c.c.toNat,by have:=hc.c2;have:=hc.t1;omega⟩
 have HC:=q9 (qc hc (qc hn (qc hi hl)))
 have hR:=hA.kept F0 (by simp) (by simp)
 unfold Cf.val
 rw [hn] at o1 F0 hR ⊢
 have HN:=q9 hn
 clear hn hc hA hi hl
 obtain ⟨c0,c1,c2,c3⟩:=Pl.yn o1
 go_enter Tryz.func29,Tryz.ntmps29
 go_wp2_with fail
 generalize World.alloc w _=w1 at *
 generalize w.heap.size=bc at *
 refine (q9h c.t c.wd c.v n p q s w1 HC.out.1.t1 HC.out.1.t8 (by have:=HC.out.1.c2;have:=HC.out.1.t1;have:=HN.out;omega) (by have:=HC.out.1.c16;have:=HN.out;omega) hR).mono ?_;rintro e w2 ⟨⟨u,rfl,hu⟩,F2⟩
 have hT:=q68 (qw s.l) s.l.length n c.t
 generalize q79 (qw s.l) s.l.length n c.t=L at *
 have G:=F0.trans F2
 replace o1:=o1.up F2
 obtain ⟨a2,k2,rfl,hk2,hm2,hh⟩:=Sq.own (f:=fN) hu
 have HT:=q9 hT
 have HG:=q9 G
 clear hu hR F0 F2 c0 c1 c2 c3 G hT
 unfold maxLen at hm2
 by_cases h0:L.length=0
 ·have g:((L.length:Int) == 0)=true:=by simp [h0]
  obtain ⟨c0,c1,c2,c3⟩:=Pl.yn o1
  clear hh h0
  go_wp2_with fail
  refine (Ref.Xb c.t n c.wd c.v HC.out.1.t1 HC.out.1.t8 _).mono ?_;rintro e w3 ⟨rfl,F3⟩
  go_wp2_with fail
  go_ret
  refine ⟨⟨_,rfl,?_⟩,HG.out.trans F3⟩
  have h1:=HC.out.1.top;have h2:=HC.out.1.t1;have h3:=HC.out.2.2.2
  unfold PickOk
  omega
 ·have g:((L.length:Int) == 0)=false:=by simpa using h0
  have hi:=HC.out.2.2.1
  obtain h0' | ⟨gb,off,rfl,hg,hcell⟩:=hh
  ·exact absurd h0' h0
  obtain ⟨j,hj⟩:∃ j:Nat,i % (L.length:Int)=j:=⟨(i % (L.length:Int)).toNat,by have:=Int.emod_nonneg i (show (L.length:Int)≠0 by omega);omega⟩
  have hjl:j<L.length:=by have:=Int.emod_lt_of_pos i (show (0:Int)<L.length by omega);omega
  have htm:Int.tmod i (L.length:Int)=j:=by rw [Int.tmod_eq_emod_of_nonneg hi.1];exact hj
  have hx:L[j]? = some (L[j]'hjl):=List.getElem?_eq_getElem hjl
  generalize L[j]'hjl=x at *
  have hc:=hcell j _ (fN_get hx)
  have HX:=q9 (told_ok HC.out.2.1 HT.out hx)
  clear hcell hx h0
  go_wp2_with fail
  go_ret
  exact ⟨⟨x,rfl,HX.out⟩,HG.out⟩
end Go.Proofs.YtaccfepnhmgagaaGreatDoor.Pick
namespace Go.Proofs.YtaccfepnhmgagaaGreatDoor.Kp
open Go.RowKit Go.Proofs.YtaccfepnhmgagaaGreatDoor.Ar Go.Proofs.YtaccfepnhmgagaaGreatDoor.Mx
set_option linter.unusedVariables false
set_option linter.unusedSimpArgs false
def latV (o:Option It):Value:=.tuple #[.agg #[.int .i64 (o.getD ⟨0,0,0⟩).k,.int .i64 (o.getD ⟨0,0,0⟩).v,.int .i64 (o.getD ⟨0,0,0⟩).d],.bool o.isSome]
def foldL (k v:Int) (l:List It):Option It:=l.foldl (lat1 k v) none
theorem foldL_step {k v:Int} {l:List It} {i:Nat} {x:It} (hx:l[i]? = some x):foldL k v (l.take (i+1))=lat1 k v (foldL k v (l.take i)) x:=by
 unfold foldL;rw [List.take_add_one,hx,List.foldl_append];rfl
theorem lat1_old {k v:Int} {o:Option It} {x:It} (h:¬ (x.k=k∧x.v≤v)):lat1 k v o x=o:=by unfold lat1;rw [qd (fun hh=>h ⟨hh.1,hh.2.1⟩)]
theorem lat1_new {v:Int} {o:Option It} {x:It} (h:x.v≤v) (ho:o.all (fun y=>decide (y.v≤x.v))=true):lat1 x.k v o x=some x:=by unfold lat1;rw [qf ⟨rfl,h,ho⟩]
theorem lat1_less {k v:Int} {y x:It} (h:¬ y.v≤x.v):lat1 k v (some y) x=some y:=by unfold lat1;rw [qd (fun hh=>h (by simpa using hh.2.2))]
theorem set3 {w:World} {q:Nat} {T:TypeId} {x y z:Value} (h:Ob w q T #[x,y,z]) (a b c:Value):Ob (((w.setCell ⟨q,0,none⟩ a).setCell ⟨q,1,none⟩ b).setCell ⟨q,2,none⟩ c) q T #[a,b,c]:=((h.set (i:=0) a).set (i:=1) b).set (i:=2) c
theorem fr3 {w w':World} {q:Nat} (f:Fr [] w w') (a b c:Value) (hq:w.heap.size≤q):Fr [] w (((w'.setCell ⟨q,0,none⟩ a).setCell ⟨q,1,none⟩ b).setCell ⟨q,2,none⟩ c) :=
 f.own (((Fr.setCell (S:=[q]) a (by simp)).setCell' b (by simp)).setCell' c (by simp)) (by simpa using hq)
end Go.Proofs.YtaccfepnhmgagaaGreatDoor.Kp
namespace Go.Proofs.YtaccfepnhmgagaaGreatDoor.Kp
open Go.RowKit Go.Proofs.YtaccfepnhmgagaaGreatDoor.Ar Go.Proofs.YtaccfepnhmgagaaGreatDoor.Mx
set_option linter.unusedVariables false
set_option linter.unusedSimpArgs false
def RLtAt (w:World) (l:List It) (key version:Int) (p:Nat) (u8 u9:Value) (wr:World):Prop :=
 ∃ i:Nat,i≤l.length∧u9 = .int .i64 (i:Nat)∧((foldL key version (l.take i)=none∧u8 = .int .i64 (-1))∨∃ (j:Nat) (c:It),foldL key version (l.take i)=some c∧u8 = .int .i64 (j:Nat)∧l[j]? = some c) ∧
  wr.heap[p]? = some (.cells #[.int .i64 0,.int .i64 0,.int .i64 0] 65 (0,0))∧Fr [] w wr
theorem neg1:((-1:Int)<0):=by omega
set_option maxRecDepth 100000 in
set_option maxHeartbeats 3200000 in
theorem rlatest_any (l:List It) (v:Value) (key version:Int) (w:World) (hl:l.length≤1000) (h:Sq fT w v l) :
  Calls Tryz.prog 31 #[v,.int .i64 key,.int .i64 version] w fun e w'=>e = .returned (latV (latT l key version))∧Fr [] w w':=by
 obtain ⟨av,cv,rfl,hcv,hmv,-⟩:=id h
 go_enter Tryz.func31,Tryz.ntmps31
 go_wp2_with fail
 go_loopw [8,9] (RLtAt w l key version w.heap.size) (fun _ x _=>l.length - (match x with | .int _ z=>z.toNat | _=>0))
 case atStart=>exact ⟨0,by omega,rfl,.inl ⟨rfl,rfl⟩,Go.heap_alloc_new w _,(Fr.refl [] w).alloc _⟩
 case round =>
  obtain ⟨i,hi,rfl,hb,hp,F⟩:=hrel
  by_cases hlt:i<l.length
  ·obtain ⟨x,hx⟩:∃ x,l[i]? = some x:=⟨l[i],List.getElem?_eq_getElem hlt⟩
   have hltz:(i:Int)<(l.length:Int):=by omega
   have hi0:(0:Int)≤(i:Int):=by omega
   have hin:((i:Int)).toNat=i:=by omega
   have HS:=q9 (foldL_step (k:=key) (v:=version) hx)
   have hS:=h.up F
   obtain ⟨gs,os,rfl,x0,x1,x2⟩:=xj hS hx
   have HQ:=q9 (qc hp F)
   have HX:=q9 hx
   rcases hb with ⟨hfo,rfl⟩ | ⟨j,c,hfo,rfl,hj⟩
   ·have HO:=q9 hfo
    clear hx hp F h hS hfo
    by_cases hk:x.k=key
    ·obtain rfl:=hk
     by_cases hv:x.v≤version
     ·have hvb:decide (x.v≤version)=true:=decide_eq_true hv
      go_wp2_with fail
      refine Ru (by kernel_rfl) (by kernel_rfl) ?_
      have k0:=qb x0
      have k1:=qb x1
      repeat (go_big_quiet_step (fail))
      refine wpQuiet_nil ?_
      intro w1 F1
      clear k0 k1
      go_wp2_with fail
      go_roundw
      case rel=>exact ⟨i+1,by omega,by simp,.inr ⟨i,x,by rw [HS.out,HO.out,lat1_new (by omega) (by simp)],rfl,HX.out⟩,F1.heap HQ.out.1 (by simp),HQ.out.2.trans F1⟩
      case measure=>simp;omega
     ·have hvb:decide (x.v≤version)=false:=decide_eq_false hv
      go_wp2_with fail
      refine Ru (by kernel_rfl) (by kernel_rfl) ?_
      have k0:=qb x0
      have k1:=qb x1
      repeat (go_big_quiet_step (fail))
      refine wpQuiet_nil ?_
      intro w1 F1
      clear k0 k1
      go_wp2_with fail
      go_roundw
      case rel=>exact ⟨i+1,by omega,by simp,.inl ⟨by rw [HS.out,HO.out,lat1_old (fun hh=>by omega)],rfl⟩,F1.heap HQ.out.1 (by simp),HQ.out.2.trans F1⟩
      case measure=>simp;omega
    ·have hkn:(x.k == key)=false:=by simpa using hk
     go_wp2_with fail
     refine Ru (by kernel_rfl) (by kernel_rfl) ?_
     have k0:=qb x0
     have k1:=qb x1
     repeat (go_big_quiet_step (fail))
     refine wpQuiet_nil ?_
     intro w1 F1
     clear k0 k1
     go_wp2_with fail
     go_roundw
     case rel=>exact ⟨i+1,by omega,by simp,.inl ⟨by rw [HS.out,HO.out,lat1_old (fun hh=>by omega)],rfl⟩,F1.heap HQ.out.1 (by simp),HQ.out.2.trans F1⟩
     case measure=>simp;omega
   ·have hjl:j<l.length:=(List.getElem?_eq_some_iff.1 hj).1
    have hjz:(j:Int)<(l.length:Int):=by omega
    have hj0:(0:Int)≤(j:Int):=by omega
    have hjn:decide ((j:Int)<0)=false:=decide_eq_false (by omega)
    have hjt:((j:Int)).toNat=j:=by omega
    obtain ⟨gs2,os2,e1,y0,y1,y2⟩:=xj hS hj
    cases e1
    have HO:=q9 (qc hfo hj)
    clear hx hp F h hS hfo hj
    by_cases hk:x.k=key
    ·obtain rfl:=hk
     by_cases hv:x.v≤version
     ·have hvb:decide (x.v≤version)=true:=decide_eq_true hv
      by_cases hvv:c.v≤x.v
      ·skip
       go_wp2_with fail
       refine Ru (by kernel_rfl) (by kernel_rfl) ?_
       have k0:=qb x0
       have k1:=qb x1
       have l1:=qb y1
       repeat (go_big_quiet_step (fail))
       refine wpQuiet_nil ?_
       intro w1 F1
       clear k0 k1 l1
       go_wp2_with fail
       go_roundw
       case rel=>exact ⟨i+1,by omega,by simp,.inr ⟨i,x,by rw [HS.out,HO.out.1,lat1_new (by omega) (by simpa using hvv)],rfl,HX.out⟩,F1.heap HQ.out.1 (by simp),HQ.out.2.trans F1⟩
       case measure=>simp;omega
      ·skip
       go_wp2_with fail
       refine Ru (by kernel_rfl) (by kernel_rfl) ?_
       have k0:=qb x0
       have k1:=qb x1
       have l1:=qb y1
       repeat (go_big_quiet_step (fail))
       refine wpQuiet_nil ?_
       intro w1 F1
       clear k0 k1 l1
       go_wp2_with fail
       go_roundw
       case rel=>exact ⟨i+1,by omega,by simp,.inr ⟨j,c,by rw [HS.out,HO.out.1,lat1_less (by omega)],rfl,HO.out.2⟩,F1.heap HQ.out.1 (by simp),HQ.out.2.trans F1⟩
       case measure=>simp;omega
     ·have hvb:decide (x.v≤version)=false:=decide_eq_false hv
      go_wp2_with fail
      refine Ru (by kernel_rfl) (by kernel_rfl) ?_
      have k0:=qb x0
      have k1:=qb x1
      have l1:=qb y1
      repeat (go_big_quiet_step (fail))
      refine wpQuiet_nil ?_
      intro w1 F1
      clear k0 k1 l1
      go_wp2_with fail
      go_roundw
      case rel=>exact ⟨i+1,by omega,by simp,.inr ⟨j,c,by rw [HS.out,HO.out.1,lat1_old (fun hh=>by omega)],rfl,HO.out.2⟩,F1.heap HQ.out.1 (by simp),HQ.out.2.trans F1⟩
      case measure=>simp;omega
    ·have hkn:(x.k == key)=false:=by simpa using hk
     go_wp2_with fail
     refine Ru (by kernel_rfl) (by kernel_rfl) ?_
     have k0:=qb x0
     have k1:=qb x1
     have l1:=qb y1
     repeat (go_big_quiet_step (fail))
     refine wpQuiet_nil ?_
     intro w1 F1
     clear k0 k1 l1
     go_wp2_with fail
     go_roundw
     case rel=>exact ⟨i+1,by omega,by simp,.inr ⟨j,c,by rw [HS.out,HO.out.1,lat1_old (fun hh=>by omega)],rfl,HO.out.2⟩,F1.heap HQ.out.1 (by simp),HQ.out.2.trans F1⟩
     case measure=>simp;omega
  ·have hltz:¬ (i:Int)<(l.length:Int):=by omega
   have hie:l.length≤i:=by omega
   have HF:=q9 (qc hp F)
   obtain ⟨p0,p1,p2⟩:=cells3 hp
   have f0:=Ob.frozen hp 0
   have f1:=Ob.frozen hp 1
   have f2:=Ob.frozen hp 2
   rw [List.take_of_length_le hie] at hb
   rcases hb with ⟨hfo,rfl⟩ | ⟨j,c,hfo,rfl,hj⟩
   ·have HO:=q9 hfo
    clear hp F h hfo
    go_wp2_with fail
    obtain ⟨e0,e1,e2⟩:=cells3 (set3 HF.out.1 (.int .i64 0) (.int .i64 0) (.int .i64 0))
    have HR:=q9 (fr3 HF.out.2 (.int .i64 0) (.int .i64 0) (.int .i64 0) (Nat.le_refl w.heap.size))
    generalize ((wr.setCell ⟨w.heap.size,0,none⟩ (.int .i64 0)).setCell ⟨w.heap.size,1,none⟩ (.int .i64 0)).setCell ⟨w.heap.size,2,none⟩ (.int .i64 0)=w9 at *
    refine bodyPost_ret (v:=.tuple #[.agg #[.int .i64 0,.int .i64 0,.int .i64 0],.bool false]) (by simp [results,Tryz.results31,go_sem,e0,e1,e2]) rfl ⟨?_,HR.out⟩
    rw [show latT l key version=none from HO.out];rfl
   ·have hjl:j<l.length:=(List.getElem?_eq_some_iff.1 hj).1
    have hjz:(j:Int)<(l.length:Int):=by omega
    have hj0:(0:Int)≤(j:Int):=by omega
    have hjn:¬ (j:Int)<0:=by omega
    have hjt:((j:Int)).toNat=j:=by omega
    have HO:=q9 hfo
    obtain ⟨gs,os,rfl,y0,y1,y2⟩:=xj (h.up F) hj
    clear hp F h hfo hj
    go_wp2_with fail
    obtain ⟨e0,e1,e2⟩:=cells3 (set3 HF.out.1 (.int .i64 c.k) (.int .i64 c.v) (.int .i64 c.d))
    have HR:=q9 (fr3 HF.out.2 (.int .i64 c.k) (.int .i64 c.v) (.int .i64 c.d) (Nat.le_refl w.heap.size))
    generalize ((wr.setCell ⟨w.heap.size,0,none⟩ (.int .i64 c.k)).setCell ⟨w.heap.size,1,none⟩ (.int .i64 c.v)).setCell ⟨w.heap.size,2,none⟩ (.int .i64 c.d)=w9 at *
    refine bodyPost_ret (v:=.tuple #[.agg #[.int .i64 c.k,.int .i64 c.v,.int .i64 c.d],.bool true]) (by simp [results,Tryz.results31,go_sem,e0,e1,e2]) rfl ⟨?_,HR.out⟩
    rw [show latT l key version=some c from HO.out];rfl
end Go.Proofs.YtaccfepnhmgagaaGreatDoor.Kp
