/- armillaryhelp's Alike: of two arenas that hold the same it is true. -/
import Derived.Test.YtafmcilonpkpbaaDoorRar
import Derived.WalkSpells
namespace Go.Proofs.YtafmcilonpkpbaaDoor.Al
open Go.RowKit Go.Proofs.YtafmcilonpkpbaaDoor.Ar
theorem accGuard : Tryd.prog.eqGuardType Tryd.prog.depth 53 = false := by kernel_rfl
theorem acc_neq (k i o n k' i' o' n' : Int) (b b' : Bool) (W : World) : (binOp .neq 53 (.agg #[.int .i64 k, .int .i64 i, .int .i64 o, .int .i64 n, .bool b]) (.agg #[.int .i64 k', .int .i64 i', .int .i64 o', .int .i64 n', .bool b'])).run Tryd.prog W = .ok (.bool (!(k == k' && i == i' && o == o' && n == n' && b == b'))) W := by
  have u3 := Tryd.underlying3
  have u4 := Tryd.underlying4
  have a3 : (isAgg 3).run Tryd.prog W = .ok false W := by kernel_rfl
  have a4 : (isAgg 4).run Tryd.prog W = .ok false W := by kernel_rfl
  have hS : Tryd.prog.underlying 53 = some (.struct (Tryd.prog.fieldsOf 53)) := by kernel_rfl
  have hp : Tryd.prog.stoodInHeld 53 = false := by kernel_rfl
  rw [run_neq_struct, show (10000 : Nat) = 9999 + 1 from rfl, run_equalIn_agg W 9999 53 _ _ hS hp]
  simp only [Program.fieldsOf, Tryd.underlying53]
  go_simp
  cases h1 : k == k' <;> cases h2 : i == i' <;> cases h3 : o == o' <;> cases h4 : n == n' <;> cases h5 : b == b' <;> simp_all
/-- Where the loop over the words stands. -/
def AlikeAt (w : World) (p q p2 q2 : Nat) (s : St) (v : Value) (wr : World) : Prop := ∃ k : Nat, k ≤ s.l.length ∧ v = .int .i64 k ∧ Ar wr p q s ∧ Ref.Rar wr p2 q2 s ∧ Fr [] w wr
set_option maxHeartbeats 1600000 in
theorem alike_any (w : World) (p q p2 q2 : Nat) (s : St) (A : Ar w p q s) (R : Ref.Rar w p2 q2 s) :
    Calls Tryd.prog 9 #[.pointer (some ⟨p, 0, none⟩), .pointer (some ⟨p2, 0, none⟩)] w fun e w' => e = .returned (.bool true) ∧ Fr [] w w' := by
  obtain ⟨cap, hcap, r0, r1, r2, r3, r4, r5, r6, hc⟩ := Ref.rarCells R
  have hlo := A.lo
  have hhi := A.hi
  have i0 := In.cell r0
  have i1 := In.cell r1
  have i2 := In.cell r2
  have i3 := In.cell r3
  have i4 := In.cell r4
  have i5 := In.cell r5
  have i6 := In.cell r6
  clear r0 r1 r2 r3 r4 r5 r6 hc
  have hG := accGuard
  have hne := acc_neq s.a.kind s.a.at_ s.a.old s.a.new s.a.kind s.a.at_ s.a.old s.a.new s.a.ok s.a.ok
  simp only [beq_self_eq_true, Bool.and_self, Bool.not_true] at hne
  go_enter Tryd.func9, Tryd.ntmps9
  go_wp2_with fail
  refine wp_region_in (by kernel_rfl) (by kernel_rfl) ?_
  repeat (go_big_quiet_step ((first | (go_at_call 27; exact Calls.in_same (len_any _ p q s (A.kept (In.fr _) (by simp) (by simp)))) | (go_at_call 29; exact Calls.in_same (accesses_any _ p q s (A.kept (In.fr _) (by simp) (by simp)))) | (go_at_call 35; exact Calls.in_ (last_of _ p q s _ _ _ _ _ (A.kept (In.fr _) (by simp) (by simp)) rfl)))))
  refine wpQuiet_nil ?_
  intro w1 F1
  have A1 := A.kept F1 (by simp) (by simp)
  have R1 := R.kept F1 (by simp) (by simp)
  clear i0 i1 i2 i3 i4 i5 i6 A R hne hG
  go_wp2_with fail
  go_loopw [5] (fun v wr => AlikeAt w p q p2 q2 s v wr) (fun v _ => s.l.length - (intOf v).toNat)
  case atStart => exact ⟨0, Nat.zero_le _, rfl, A1, R1, F1⟩
  case round =>
    obtain ⟨k, hk, rfl, Aq, Rq, Fq⟩ := hrel
    clear A1 R1 F1 hcap
    obtain ⟨cap, hcap, r0, r1, r2, r3, r4, r5, r6, hc⟩ := Ref.rarCells Rq
    clear r1 r2 r3 r4 r5 r6
    by_cases hlt : k < s.l.length
    · have hcell := hc k hlt
      have hpk : peek s.l k = nth s.l k := peek_at hlt
      have b1 : (0 : Int) ≤ (k : Int) := by omega
      have b2 : (k : Int) < (s.l.length : Int) := by omega
      have HP := Lib.hid hpk
      have i0 := In.cell r0
      have i1 := In.cell hcell
      clear hc hpk
      go_wp2_with fail
      refine wp_region_in (by kernel_rfl) (by kernel_rfl) ?_
      repeat (go_big_quiet_step ((go_at_call 28; exact Calls.in_same (HP.out ▸ peek_any _ p q s k (Aq.kept (In.fr _) (by simp) (by simp))))))
      refine wpQuiet_nil ?_
      intro w5 F5
      have A5 := Aq.kept F5 (by simp) (by simp)
      have R5 := Rq.kept F5 (by simp) (by simp)
      have G5 := Fq.trans F5
      clear i0 i1 r0 hcell F5 Aq Rq Fq b1
      go_wp2_with fail
      go_roundw
      case rel => exact ⟨k + 1, by omega, by go_num, A5, R5, G5⟩
      case measure => simp [intOf]; omega
    · clear hc
      go_wp2
      go_ret
      exact ⟨rfl, Fq⟩
end Go.Proofs.YtafmcilonpkpbaaDoor.Al
