/- Texts that this proof leans on, one behind the other: GMap. -/
import Derived.Test.YtjhefbenmhmbcaaDoorQaj
import Derived.Maps.Views
set_option linter.unusedVariables false
set_option linter.unusedSimpArgs false
set_option maxRecDepth 100000
set_option maxHeartbeats 12800000
namespace Go.Proofs.YtjhefbenmhmbcaaDoor.Ar
open Go.RowKit Go.Maps
def HoldsV (D:DataW Value) (g:Int→Option Value):Prop :=
 IsMap D∧∀ k:Int,has D (.int .i64 k)=(g k).isSome∧∀ v,g k=some v→∀ zd,D.atKey (.int .i64 k) zd = .held v
def GMap (w:World) (b n:Nat) (g:Int→Option Value):Prop:=∃ D,w.ownsMap Tryd.prog 3 asIs b n D∧HoldsV D g
theorem holdsV_empty:HoldsV (.map []) (fun _=>none):=⟨isMap_empty,fun k=>⟨rfl,fun v h=>by cases h⟩⟩
theorem HoldsV.put {D:DataW Value} {g:Int→Option Value} (h:HoldsV D g) (k:Int) (v:Value):HoldsV (D.put (.int .i64 k) (.held v)) (fun x=>if x=k then some v else g x):=by
 obtain ⟨hm,hg⟩:=h
 refine ⟨hm.put _ _,fun x=>?_⟩
 by_cases hx:x=k
 ·subst hx
  have hk:WideAt.IsKeyLit (.int .i64 x):=trivial
  exact ⟨by rw [has_put_same hm hk];simp,fun u hu zd=>by simp at hu;subst hu;exact atKey_put_same hm hk _ _⟩
 ·have hne:(Lit.int .i64 x)≠Lit.int .i64 k:=fun e=>hx (by cases e;rfl)
  simp only [if_neg hx]
  rw [has_put_other hne]
  exact ⟨(hg x).1,fun u hu zd=>by rw [atKey_put_other hne];exact (hg x).2 u hu zd⟩
theorem GMap.made (w:World):GMap (w.alloc (.map #[] 0)) w.heap.size 0 (fun _=>none):=⟨_,World.ownsMap_made w _ _ _,holdsV_empty⟩
theorem GMap.kept {w w':World} {b n:Nat} {g:Int→Option Value} {S:List Nat} (h:GMap w b n g) (f:Fr S w w') (hb:b∉S):GMap w' b n g:=by
 obtain ⟨D,⟨es,clock,h1,h2⟩,hD⟩:=h
 exact ⟨D,⟨es,clock,f.heap h1 hb,h2⟩,hD⟩
theorem GMap.up {w w':World} {b n:Nat} {g:Int→Option Value} (h:GMap w b n g) (f:Fr [] w w'):GMap w' b n g:=h.kept f (by simp)
theorem GMap.lt {w:World} {b n:Nat} {g:Int→Option Value} (h:GMap w b n g):b<w.heap.size:=by
 obtain ⟨D,h1,_⟩:=h;exact h1.lt
theorem GMap.put {w:World} {b n:Nat} {g:Int→Option Value} (h:GMap w b n g) {t e:TypeId} (ht:Tryd.prog.underlying t=some (.map 3 e)) (hn:n<maxLen) {k:Int} (hk:(Lit.int .i64 k).wf=true) (v:Value) :
  ∃ w',(Instr.mapUpdate t (.map (some b)) (.int .i64 k) v).run Tryd.prog w = .ok () w'∧GMap w' b (n+1) (fun x=>if x=k then some v else g x)∧Fr [b] w w':=by
 obtain ⟨D,h1,hD⟩:=h
 obtain ⟨w',r1,r2,r3⟩:=h1.update intKeyV ht hn (keyOf_int_mk Tryd.underlying3 hk) (show asIs v=some (.held v,[]) from rfl)
 exact ⟨w',r1,⟨_,r2,hD.put k v⟩,fr_grown_some r3⟩
theorem GMap.look {w:World} {b n:Nat} {g:Int→Option Value} (h:GMap w b n g) {t e:TypeId} (ht:Tryd.prog.underlying t=some (.map 3 e)) {z:Value} (hz:(zeroValue e).run Tryd.prog w = .ok z w) {k:Int} (hk:(Lit.int .i64 k).wf=true) (c:Bool) :
  (Instr.lookup t (.map (some b)) (.int .i64 k) c).run Tryd.prog w = .ok (if c then .tuple #[(g k).getD z,.bool (g k).isSome] else (g k).getD z) w:=by
 obtain ⟨D,⟨es,clock,hb,F,hs,hDe⟩,hD⟩:=h
 obtain ⟨hh,hv⟩:=hD.2 k
 rcases Maps.fit_look c intKeyV ht hz hb F (keyOf_int_mk Tryd.underlying3 hk) with ⟨hrun,_,hat⟩ | ⟨e0,y,_,_,hrun,hRv,hat,_⟩
 ·rw [← hDe] at hat
  rw [has_false_of_atKey hat] at hh
  rw [show g k=none by cases hg:g k with | none=>rfl | some v=>rw [hg] at hh;simp at hh]
  simpa using hrun
 ·rw [← hDe] at hat
  rw [has_true_of_atKey hat] at hh
  obtain ⟨v,hg⟩:∃ v,g k=some v:=by cases hg:g k with | none=>rw [hg] at hh;simp at hh | some v=>exact ⟨v,rfl⟩
  have hy:y=(.held e0.val,[]):=by unfold asIs at hRv;exact (Option.some.inj hRv).symm
  have h2:=hv v hg (.held z)
  rw [hat,hy] at h2
  obtain rfl:e0.val=v:=by cases h2;rfl
  rw [hg]
  simpa using hrun
end Go.Proofs.YtjhefbenmhmbcaaDoor.Ar
