/- Texts that this proof leans on, one behind the other: SameAll, Alike. -/
import Derived.Test.YtilipdnchflkhaaGreatDoorVab
import Derived.Test.YtilipdnchflkhaaGreatDoorVae
import Derived.WalkSpells
set_option linter.unusedVariables false
set_option linter.unusedSimpArgs false
set_option maxRecDepth 100000
set_option maxHeartbeats 12800000
namespace Go.Proofs.YtilipdnchflkhaaGreatDoor.Og
open Go.RowKit Go.Maps Go.Proofs.YtilipdnchflkhaaGreatDoor.Ar
theorem c7 {w:World} {b:Nat} {t:TypeId} {x0 x1 x2 x3 x4 x5 x6:Value} (h:w.heap[b]? = some (.cells #[x0,x1,x2,x3,x4,x5,x6] t (0,0))) :
  w.cell? ⟨b,0,none⟩=some x0∧w.cell? ⟨b,1,none⟩=some x1∧w.cell? ⟨b,2,none⟩=some x2∧w.cell? ⟨b,3,none⟩=some x3∧w.cell? ⟨b,4,none⟩=some x4∧w.cell? ⟨b,5,none⟩=some x5∧w.cell? ⟨b,6,none⟩=some x6 :=
 ⟨by rw [cell_of_row _ _ _ _ _ _ h];rfl,by rw [cell_of_row _ _ _ _ _ _ h];rfl,by rw [cell_of_row _ _ _ _ _ _ h];rfl,by rw [cell_of_row _ _ _ _ _ _ h];rfl,by rw [cell_of_row _ _ _ _ _ _ h];rfl,by rw [cell_of_row _ _ _ _ _ _ h];rfl,by rw [cell_of_row _ _ _ _ _ _ h];rfl⟩
end Go.Proofs.YtilipdnchflkhaaGreatDoor.Og
namespace Go.Proofs.YtilipdnchflkhaaGreatDoor.Al
open Go.RowKit Go.Proofs.YtilipdnchflkhaaGreatDoor.Ar
theorem accGuard:Tryz.prog.eqGuardType Tryz.prog.depth 45=false:=by kernel_rfl
theorem acc_neq (k i o n k' i' o' n':Int) (b b':Bool) (W:World):(binOp .neq 45 (.agg #[.int .i64 k,.int .i64 i,.int .i64 o,.int .i64 n,.bool b]) (.agg #[.int .i64 k',.int .i64 i',.int .i64 o',.int .i64 n',.bool b'])).run Tryz.prog W = .ok (.bool (!(k == k' && i == i' && o == o' && n == n' && b == b'))) W:=by
 have u3:=Tryz.underlying3
 have u4:=Tryz.underlying4
 have a3:(isAgg 3).run Tryz.prog W = .ok false W:=by kernel_rfl
 have a4:(isAgg 4).run Tryz.prog W = .ok false W:=by kernel_rfl
 have hS:Tryz.prog.underlying 45=some (.struct (Tryz.prog.fieldsOf 45)):=by kernel_rfl
 have hp:Tryz.prog.stoodInHeld 45=false:=by kernel_rfl
 rw [run_neq_struct,show (10000:Nat)=9999+1 from rfl,run_equalIn_agg W 9999 45 _ _ hS hp]
 simp only [Program.fieldsOf,Tryz.underlying45]
 go_simp
 cases h1:k == k' <;> cases h2:i == i' <;> cases h3:o == o' <;> cases h4:n == n' <;> cases h5:b == b' <;> simp_all
def AlikeAt (w:World) (p q p2 q2:Nat) (s:St) (v:Value) (wr:World):Prop:=∃ k:Nat,k≤s.l.length∧v = .int .i64 k∧Ar wr p q s∧Ref.Rar wr p2 q2 s∧Fr [] w wr
theorem alike_any (w:World) (p q p2 q2:Nat) (s:St) (A:Ar w p q s) (R:Ref.Rar w p2 q2 s) :
  Calls Tryz.prog 27 #[.pointer (some ⟨p,0,none⟩),.pointer (some ⟨p2,0,none⟩)] w fun e w'=>e = .returned (.bool true)∧Fr [] w w':=by
 obtain ⟨cap,hcap,r0,r1,r2,r3,r4,r5,r6,hc⟩:=Ref.rarCells R
 have hlo:=A.lo
 have hhi:=A.hi
 have i0:=In.cell r0
 have i1:=In.cell r1
 have i2:=In.cell r2
 have i3:=In.cell r3
 have i4:=In.cell r4
 have i5:=In.cell r5
 have i6:=In.cell r6
 clear r0 r1 r2 r3 r4 r5 r6 hc
 have hG:=accGuard
 have hne:=acc_neq s.a.kind s.a.at_ s.a.old s.a.new s.a.kind s.a.at_ s.a.old s.a.new s.a.ok s.a.ok
 simp only [beq_self_eq_true,Bool.and_self,Bool.not_true] at hne
 go_enter Tryz.func27,Tryz.ntmps27
 go_wp2_with fail
 refine wi ?_
 repeat (go_big_quiet_step ((first | (go_at_call 36;exact Calls.in_same (len_any _ p q s (A.kept (In.fr _) (by simp) (by simp)))) | (go_at_call 22;exact Calls.in_same (accesses_any _ p q s (A.kept (In.fr _) (by simp) (by simp)))) | (go_at_call 23;exact Calls.in_ (last_of _ p q s _ _ _ _ _ (A.kept (In.fr _) (by simp) (by simp)) rfl)))))
 refine wpQuiet_nil ?_
 intro w1 F1
 have A1:=A.kept F1
 have R1:=R.kept F1
 clear i0 i1 i2 i3 i4 i5 i6 A R hne hG
 go_wp2_with fail
 go_loopw [5] (fun v wr=>AlikeAt w p q p2 q2 s v wr) (fun v _=>s.l.length - (intOf v).toNat)
 case atStart=>exact ⟨0,Nat.zero_le _,rfl,A1,R1,F1⟩
 case round =>
  obtain ⟨k,hk,rfl,Aq,Rq,Fq⟩:=hrel
  clear A1 R1 F1 hcap
  obtain ⟨cap,hcap,r0,r1,r2,r3,r4,r5,r6,hc⟩:=Ref.rarCells Rq
  clear r1 r2 r3 r4 r5 r6
  by_cases hlt:k<s.l.length
  ·have hcell:=hc k hlt
   have hpk:peek s.l k=nth s.l k:=peek_at hlt
   have b1:(0:Int)≤(k:Int):=by omega
   have b2:(k:Int)<(s.l.length:Int):=by omega
   have HP:=Lib.hid hpk
   have i0:=In.cell r0
   have i1:=In.cell hcell
   clear hc hpk
   go_wp2_with fail
   refine wi ?_
   repeat (go_big_quiet_step ((go_at_call 30;exact Calls.in_same (HP.out ▸ peek_any _ p q s k (Aq.kept (In.fr _) (by simp) (by simp))))))
   refine wpQuiet_nil ?_
   intro w5 F5
   have A5:=Aq.kept F5
   have R5:=Rq.kept F5
   have G5:=Fq.trans F5
   clear i0 i1 r0 hcell F5 Aq Rq Fq b1
   go_wp2_with fail
   go_roundw
   case rel=>exact ⟨k+1,by omega,by go_num,A5,R5,G5⟩
   case measure=>simp [intOf];omega
  ·clear hc
   go_wp2
   go_ret
   exact ⟨rfl,Fq⟩
end Go.Proofs.YtilipdnchflkhaaGreatDoor.Al
