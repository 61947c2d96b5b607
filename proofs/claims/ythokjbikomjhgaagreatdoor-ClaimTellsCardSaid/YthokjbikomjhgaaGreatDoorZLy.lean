/- Words that are laid between two steps, in both arenas. -/
import Derived.Test.YthokjbikomjhgaaGreatDoorVaa
import Derived.WalkSpells
import Derived.RegionTactic
namespace Go.Proofs.YthokjbikomjhgaaGreatDoor.Lay
open Go.RowKit Ar Ref Mx
set_option linter.unusedVariables false
set_option linter.unusedSimpArgs false
def Pks (w:World) (v:Value) (n:Nat) (A V:Nat→Int):Prop :=
 ∃ (a:Option Addr) (cap:Nat),v = .slice a n cap∧n≤maxLen∧(n=0∨∃ b off,a=some ⟨b,off,none⟩∧b<w.heap.size∧∀ i,i<n→w.cell? ⟨b,off+i * 2,none⟩=some (.int .i64 (A i))∧w.cell? ⟨b,off+i * 2+1,none⟩=some (.int .i64 (V i)))
theorem Pks.kept {S:List Nat} {w0 w w':World} {v:Value} {n:Nat} {A V:Nat→Int} (h:Pks w v n A V) (f:Fr S w w') (hS:∀ k,k∈S→w.heap.size≤k):Pks w' v n A V:=by
 obtain ⟨a,cap,rfl,hm,hh⟩:=h
 refine ⟨a,cap,rfl,hm,?_⟩
 rcases hh with h0 | ⟨b,off,e,hb,hc⟩
 ·exact .inl h0
 ·refine .inr ⟨b,off,e,qj hb f.size,fun i hi=>?_⟩
  have hn:b∉S:=fun k=>by have:=hS b k;omega
  exact ⟨f.cell (hc i hi).1 hn,f.cell (hc i hi).2 hn⟩
theorem Pks.up {w w':World} {v:Value} {n:Nat} {A V:Nat→Int} (h:Pks w v n A V) (f:Fr [] w w'):Pks w' v n A V:=h.kept (w0:=w) f (by simp)
def Laid (s s':St):Prop:=s'=s∨∃ at_ v,0≤at_∧0≤v∧v≤268435456∧s'=s.yl at_ v
def PostL (w:World) (p q p2 q2:Nat) (s:St) (e:Ending) (w':World):Prop:=e = .returned (.tuple #[])∧∃ s',Laid s s'∧Ar w' p q s'∧Rar w' p2 q2 s'∧Fr [p,q,p2,q2] w w'
set_option maxRecDepth 100000 in
set_option maxHeartbeats 3200000 in
theorem lay_any (p q p2 q2:Nat) (s:St) (v:Value) (n:Nat) (A V:Nat→Int) (i:Nat) (w:World) (hA:Ar w p q s) (hR:Rar w p2 q2 s) (hP:Pks w v n A V) (hi:i≤1000)
  (hne:p≠p2∧p≠q2∧q≠p2∧q≠q2):Calls Tryz.prog 32 #[.pointer (some ⟨p,0,none⟩),.pointer (some ⟨p2,0,none⟩),v,.int .i64 i] w (PostL w p q p2 q2 s):=by
 obtain ⟨a,cap,rfl,hm,hh⟩:=hP
 have HA:=q9 (qc hA hR)
 have HN:=q9 hne
 clear hA hR hne
 by_cases hn:n=0
 ·have g:((n:Int) == 0)=true:=by simp [hn]
  clear hh hn
  go_enter Tryz.func32,Tryz.ntmps32
  go_wp2_with fail
  refine bodyPost_ret (results_none rfl _ _ _) rfl ?_
  exact ⟨rfl,s,.inl rfl,HA.out.1,HA.out.2,Fr.refl _ _⟩
 have g0:((n:Int) == 0)=false:=by simpa using hn
 by_cases h3:i % 3=2
 case neg =>
  have g1:((i:Int) % 3 != 2)=true:=by simp;omega
  clear hh hn h3
  go_enter Tryz.func32,Tryz.ntmps32
  go_wp2_with fail
  refine bodyPost_ret (results_none rfl _ _ _) rfl ?_
  exact ⟨rfl,s,.inl rfl,HA.out.1,HA.out.2,Fr.refl _ _⟩
 have g1:((i:Int) % 3 != 2)=false:=by simp;omega
 rcases hh with h0 | ⟨b,off,rfl,hb,hc⟩
 ·exact absurd h0 hn
 have hk:((i:Int) / 3) % (n:Int)=((i / 3 % n:Nat):Int):=by push_cast;rfl
 have hlt:i / 3 % n<n:=Nat.mod_lt _ (by omega)
 generalize i / 3 % n=k at *
 obtain ⟨c0,c1⟩:=hc k hlt
 generalize A k=at_ at *
 generalize V k=vl at *
 clear hc hb h3 hn
 have hdz:¬ (n:Int)=0:=by simpa using g0
 unfold maxLen at hm
 have F0:=(Fr.refl [] w).alloc (.cells #[.int .i64 at_,.int .i64 vl] 146)
 have HP:=q9 (qc (HA.out.1.kept F0 (by simp) (by simp)) (qc (HA.out.2.kept F0 (by simp) (by simp)) F0))
 by_cases hv:0≤vl∧vl≤268435456∧0≤at_
 ·have q1:decide (vl<0)=false:=by simp;omega
  have q2':decide (268435456<vl)=false:=by simp;omega
  have q2'':decide (vl>268435456)=false:=by simp;omega
  have q3:decide (at_<0)=false:=by simp;omega
  have HV:=q9 hv
  have ob:=Ob.new w 146 #[.int .i64 at_,.int .i64 vl]
  have HO:=q9 ob
  have hbp:w.heap.size≠p∧w.heap.size≠q:=by
   have:=HA.out.1.lt;omega
  have HB:=q9 hbp
  clear hv F0 ob hbp
  go_enter Tryz.func32,Tryz.ntmps32
  go_wp2_with fail
  generalize World.alloc w _=w1 at *
  generalize w.heap.size=bp at *
  refine (Ar.kg _ p q _ _ _ HP.out.1).mono ?_;rintro e w2 ⟨rfl,A2,F2⟩
  have o2:=HO.out.kept F2 (by simp;exact HB.out.2)
  have d0:=Ob.cell (i:=0) o2 rfl
  have d1:=Ob.cell (i:=1) o2 rfl
  have R2:=HP.out.2.1.kept F2 (by simp;exact HN.out.2.2.1.symm) (by simp;exact HN.out.2.2.2.symm)
  have G2:Fr [p,q,p2,q2] w w2:=(HP.out.2.2.mono (by simp)).trans (F2.mono (by simp))
  have HQ:=q9 (qc A2 G2)
  clear A2 G2 F2 o2 HP
  go_wp2_with fail
  refine (Ref.kg _ p2 q2 _ _ _ R2).mono ?_;rintro e w3 ⟨rfl,R3_u,F3⟩
  have A3:=HQ.out.1.kept F3 (by simp;exact HN.out.2.1) (by simp;exact HN.out.2.2.2)
  clear d0 d1 R2
  go_wp2_with fail
  refine bodyPost_ret (results_none rfl _ _ _) rfl ?_
  exact ⟨rfl,s.yl at_ vl,.inr ⟨at_,vl,HV.out.2.2,HV.out.1,HV.out.2.1,rfl⟩,A3,R3_u,HQ.out.2.trans (F3.mono (by simp))⟩
 ·go_enter Tryz.func32,Tryz.ntmps32
  go_wp2_with fail
  all_goals (refine bodyPost_ret (results_none rfl _ _ _) rfl ?_;exact ⟨rfl,s,.inl rfl,HP.out.1,HP.out.2.1,HP.out.2.2.mono (by simp)⟩)
end Go.Proofs.YthokjbikomjhgaaGreatDoor.Lay
