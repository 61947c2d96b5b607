/- slices' stable sort at items: its merging. -/
import Derived.Test.YteahponbknljlaaRot
namespace Go.Proofs.Yteahponbknljlaa.Kp
open Go.RowKit Go.Shelf Go.Lib Go.Sort Go.Proofs.Yteahponbknljlaa.Mx
set_option linter.unusedVariables false
set_option linter.unusedSimpArgs false
/-- What a merging of a .. m and m .. b leaves. -/
def Mg (blk off cap : Nat) (d0 d : Array It) (w0 w : World) (a m b : Nat) : Prop :=
  Calls Try.prog 52 #[.slice (some ⟨blk, off, none⟩) d.size cap, .int .i64 a, .int .i64 m, .int .i64 b, .func (.func 22) #[] #[]] w fun e w' =>
    e = .returned (.tuple #[]) ∧ ∃ d', (SrtI a b d' ∧ Mrg a b d d') ∧ SWK fT 3 w0 blk off d' w'
set_option maxHeartbeats 6400000 in
set_option maxRecDepth 1000000 in
theorem symA (blk off cap a m b : Nat) (d0 d : Array It) (w0 w : World) (R : RowK fT 3 w0 blk off d0) (hs : d0.size = d.size) (S : SWK fT 3 w0 blk off d w) (hm1 : m = a + 1) (hab : m < b) (hr : SrtI m b d) (hb : b ≤ d.size) (hsz : d.size < 4611686018427387904) :
    Mg blk off cap d0 d w0 w a m b := by
  have S0 : Aside (SWK fT 3 w0 blk off d w) := S
  have RR : Aside (RowK fT 3 w0 blk off d0) := R
  have HR : Aside (SrtI m b d) := hr
  have HM : Aside (m = a + 1) := hm1
  have hma : (m : Int) - (a : Int) = 1 := by omega
  have ham : a + 1 ≤ m := by omega
  have ham2 : m ≤ a + 1 := by omega
  clear hr hm1
  clear S R
  unfold Mg
  go_enter Try.func52, Try.ntmps52
  go_wp2_with fail
  go_loopg [10, 11] (b - m) (fun kx s10 s11 wr => ∃ lo hi : Nat, s10 = .int .i64 lo ∧ s11 = .int .i64 hi ∧ m ≤ lo ∧ lo ≤ hi ∧ hi ≤ b ∧ hi - lo ≤ kx ∧ Aside (SWK fT 3 w0 blk off d wr) ∧ Aside (lo = m ∨ ltT d[lo - 1]! d[a]!) ∧ Aside (hi = b ∨ ¬ ltT d[hi]! d[a]!))
  case atStart => exact ⟨m, b, rfl, rfl, by omega, by omega, by omega, by omega, S0, .inl rfl, .inl rfl⟩
  case round =>
    clear S0
    obtain ⟨lo, hi, rfl, rfl, h1, h2, h3, hkx, S1, HL, HH⟩ := hrel
    by_cases hlt : lo < hi
    · have hltz : (lo : Int) < (hi : Int) := by omega
      have eA : (((lo : Int) + (hi : Int)) / 2).toNat = ((lo + hi) / 2) := by omega
      have pA : (0 : Int) ≤ ((lo : Int) + (hi : Int)) / 2 := by omega
      have bA : ((lo : Int) + (hi : Int)) / 2 < (d.size : Int) := by omega
      have rA : IntKind.i64.wrap (((lo : Int) + (hi : Int)) / 2) = ((lo : Int) + (hi : Int)) / 2 := by rw [IntKind.wrap_i64]; omega
      have eB : ((a : Int)).toNat = a := by omega
      have pB : (0 : Int) ≤ (a : Int) := by omega
      have bB : (a : Int) < (d.size : Int) := by omega
      have rB : IntKind.i64.wrap ((a : Int)) = (a : Int) := by rw [IntKind.wrap_i64]; omega
      have SH := S1.out.holds RR.out.hblk RR.out.hH (by omega)
      have hbl := S1.out.lt RR.out.hblk
      obtain ⟨vx, hvx⟩ : ∃ v, d[((lo + hi) / 2)]! = v := ⟨_, rfl⟩
      obtain ⟨vy, hvy⟩ : ∃ v, d[a]! = v := ⟨_, rfl⟩
      obtain ⟨x0, x1, x2, -, -, -⟩ := it_at SH (i := ((lo + hi) / 2)) (by omega) hvx
      obtain ⟨y0, y1, y2, -, -, -⟩ := it_at SH (i := a) (by omega) hvy
      have gx0 := fun n os => cell_grown (w := wr) (by exact hbl) x0 n os
      have gx1 := fun n os => cell_grown (w := wr) (by exact hbl) x1 n os
      have gx2 := fun n os => cell_grown (w := wr) (by exact hbl) x2 n os
      have gy0 := fun n os => cell_grown (w := wr) (by exact hbl) y0 n os
      have gy1 := fun n os => cell_grown (w := wr) (by exact hbl) y1 n os
      have gy2 := fun n os => cell_grown (w := wr) (by exact hbl) y2 n os
      have hcg := fun n os => cmp_grown vx vy wr n os
      have CLS : Aside (∀ n os, SWK fT 3 w0 blk off d (grow (wr.drewN n) os)) := fun n os => S1.out.grown n os
      have HV : Aside (d[((lo + hi) / 2)]! = vx ∧ d[a]! = vy) := ⟨hvx, hvy⟩
      clear SH x0 x1 x2 y0 y1 y2 hvx hvy S1 hbl
      have mixed : Try.prog.follows .mixedOrders = true := by kernel_rfl
      by_cases hc : cfT vx vy < 0
      · have HC : Aside (ltT d[((lo + hi) / 2)]! d[a]!) := by rw [HV.out.1, HV.out.2]; exact cfT_lt.1 hc
        have hcb : decide (cfT vx vy < 0) = true := decide_eq_true hc
        clear hc
        go_wp2_with fail
        go_quiet_grown (first | (go_at_call 22; refine Calls.grown_of (hcg _ _)))
        have S2 : Aside (SWK fT 3 w0 blk off d (grow (wr.drewN nq) osq)) := CLS.out nq osq
        generalize grow (wr.drewN nq) osq = wq at S2 ⊢
        clear CLS hcg gx0 gx1 gx2 gy0 gy1 gy2 mixed
        go_wp2_with fail
        go_roundg (hi - ((lo + hi) / 2 + 1))
        case measure => omega
        case rel => exact ⟨(lo + hi) / 2 + 1, hi, by rw [show ((lo : Int) + (hi : Int)) / 2 + 1 = (((lo + hi) / 2 + 1 : Nat) : Int) by omega], rfl, by omega, by omega, by omega, by omega, S2, .inr (by simpa using HC.out), HH⟩
      · have HC : Aside (¬ ltT d[((lo + hi) / 2)]! d[a]!) := by rw [HV.out.1, HV.out.2]; exact fun h => hc (cfT_lt.2 h)
        have hcb : decide (cfT vx vy < 0) = false := decide_eq_false hc
        clear hc
        go_wp2_with fail
        go_quiet_grown (first | (go_at_call 22; refine Calls.grown_of (hcg _ _)))
        have S2 : Aside (SWK fT 3 w0 blk off d (grow (wr.drewN nq) osq)) := CLS.out nq osq
        generalize grow (wr.drewN nq) osq = wq at S2 ⊢
        clear CLS hcg gx0 gx1 gx2 gy0 gy1 gy2 mixed
        go_wp2_with fail
        go_roundg ((lo + hi) / 2 - lo)
        case measure => omega
        case rel => exact ⟨lo, (lo + hi) / 2, rfl, by rw [show ((lo : Int) + (hi : Int)) / 2 = (((lo + hi) / 2 : Nat) : Int) by omega], by omega, by omega, by omega, by omega, S2, HL, .inr HC.out⟩

    · obtain rfl : lo = hi := by omega
      have hltz : ¬ (lo : Int) < (lo : Int) := by omega
      clear hlt
      go_wp2_with fail
      go_loopg [13] (lo - 1 - a) (fun kx s13 wr2 => ∃ (k : Nat) (dk : Array It), s13 = .int .i64 k ∧ a ≤ k ∧ k + 1 ≤ lo ∧ lo - 1 - k ≤ kx ∧ Aside (SWK fT 3 w0 blk off dk wr2) ∧ Aside (Rot a (a + 1) (k + 1) d dk))
      case atStart => exact ⟨a, d, rfl, by omega, by omega, by omega, S1, Rot.refl2 d (by omega)⟩
      case round =>
        clear S1
        obtain ⟨k, dk, rfl, hak, hkl, hkx2, S1, HW⟩ := hrel
        have hds : dk.size = d.size := HW.out.size
        by_cases hk : k < lo - 1
        · have hkz : (k : Int) < (lo : Int) - 1 := by omega
          have W2 : Aside (Rot a (a + 1) (k + 1 + 1) d (swp dk k (k + 1))) := swp_left HW.out (by omega) (by omega)
          go_wp2_with fail
          have eA : ((k : Int)).toNat = k := by omega
          have pA : (0 : Int) ≤ (k : Int) := by omega
          have bA : (k : Int) < (d.size : Int) := by omega
          have rA : IntKind.i64.wrap ((k : Int)) = (k : Int) := by rw [IntKind.wrap_i64]; omega
          have eB : ((k : Int) + 1).toNat = (k + 1) := by omega
          have pB : (0 : Int) ≤ (k : Int) + 1 := by omega
          have bB : (k : Int) + 1 < (d.size : Int) := by omega
          have rB : IntKind.i64.wrap ((k : Int) + 1) = (k : Int) + 1 := by rw [IntKind.wrap_i64]; omega
          have S2 : Aside (SWK fT 3 w0 blk off (swp dk k (k + 1)) ((wr.drew.setCells blk (off + k * 3) (fT dk[(k + 1)]!)).setCells blk (off + (k + 1) * 3) (fT dk[k]!))) := S1.out.swapped RR.out k (k + 1) (by omega) (by omega)
          have SH := S1.out.holds RR.out.hblk RR.out.hH (by omega)
          obtain ⟨vx, hvx⟩ : ∃ v, dk[k]! = v := ⟨_, rfl⟩
          obtain ⟨vy, hvy⟩ : ∃ v, dk[(k + 1)]! = v := ⟨_, rfl⟩
          obtain ⟨x0, x1, x2, fx0, fx1, fx2⟩ := it_at SH (i := k) (by omega) hvx
          obtain ⟨y0, y1, y2, fy0, fy1, fy2⟩ := it_at SH (i := (k + 1)) (by omega) hvy
          clear SH
          rw [hvx, hvy] at S2
          simp only [fT, World.setCells, drew_setCell, add11] at S2
          clear hvx hvy
          have mixed : Try.prog.follows .mixedOrders = true := by kernel_rfl
          clear S1
          go_wp2_with fail
          go_big_region_o
          clear x0 x1 x2 fx0 fx1 fx2 y0 y1 y2 fy0 fy1 fy2 mixed
          generalize (((((((wr.setCell ⟨blk, off + k * 3, none⟩ (.int .i64 vy.k)).setCell ⟨blk, off + k * 3 + 1, none⟩ (.int .i64 vy.v)).setCell ⟨blk, off + k * 3 + 2, none⟩ (.int .i64 vy.d)).setCell ⟨blk, off + (k + 1) * 3, none⟩ (.int .i64 vx.k)).setCell ⟨blk, off + (k + 1) * 3 + 1, none⟩ (.int .i64 vx.v)).setCell ⟨blk, off + (k + 1) * 3 + 2, none⟩ (.int .i64 vx.d)).drew) = w2 at S2 ⊢
          go_wp2_with fail
          go_roundg (lo - 1 - (k + 1))
          case measure => omega
          case rel => exact ⟨k + 1, _, by simp, by omega, by omega, by omega, S2, W2⟩
        · have hkz : ¬ (k : Int) < (lo : Int) - 1 := by omega
          obtain rfl : lo = k + 1 := by omega
          go_wp2_with fail
          refine bodyPost_ret (results_none rfl _ _ _) rfl ?_
          obtain rfl := HM.out
          exact ⟨rfl, dk, mrg_first HR.out h1 h3 hb HL.out HH.out HW.out, S1.out⟩
set_option maxHeartbeats 6400000 in
set_option maxRecDepth 1000000 in
theorem symB (blk off cap a m b : Nat) (d0 d : Array It) (w0 w : World) (R : RowK fT 3 w0 blk off d0) (hs : d0.size = d.size) (S : SWK fT 3 w0 blk off d w) (ham : a + 1 < m) (hbm : b = m + 1) (hl : SrtI a m d) (hb : b ≤ d.size) (hsz : d.size < 4611686018427387904) :
    Mg blk off cap d0 d w0 w a m b := by
  have S0 : Aside (SWK fT 3 w0 blk off d w) := S
  have RR : Aside (RowK fT 3 w0 blk off d0) := R
  have HR : Aside (SrtI a m d) := hl
  have HM : Aside (b = m + 1) := hbm
  have hbm2 : (b : Int) - (m : Int) = 1 := by omega
  have hbm3 : m + 1 ≤ b := by omega
  have hbm4 : b ≤ m + 1 := by omega
  clear hl hbm
  clear S R
  unfold Mg
  go_enter Try.func52, Try.ntmps52
  have hma : ¬ (m : Int) - (a : Int) = 1 := by omega
  have hmab : ((m : Int) - (a : Int) == 1) = false := by simp; omega
  go_wp2_with fail
  go_loopg [14, 15] (m - a) (fun kx s10 s11 wr => ∃ lo hi : Nat, s10 = .int .i64 lo ∧ s11 = .int .i64 hi ∧ a ≤ lo ∧ lo ≤ hi ∧ hi ≤ m ∧ hi - lo ≤ kx ∧ Aside (SWK fT 3 w0 blk off d wr) ∧ Aside (lo = a ∨ ¬ ltT d[m]! d[lo - 1]!) ∧ Aside (hi = m ∨ ltT d[m]! d[hi]!))
  case atStart => exact ⟨a, m, rfl, rfl, by omega, by omega, by omega, by omega, S0, .inl rfl, .inl rfl⟩
  case round =>
    clear S0
    obtain ⟨lo, hi, rfl, rfl, h1, h2, h3, hkx, S1, HL, HH⟩ := hrel
    by_cases hlt : lo < hi
    · have hltz : (lo : Int) < (hi : Int) := by omega
      have eA : ((m : Int)).toNat = m := by omega
      have pA : (0 : Int) ≤ (m : Int) := by omega
      have bA : (m : Int) < (d.size : Int) := by omega
      have rA : IntKind.i64.wrap ((m : Int)) = (m : Int) := by rw [IntKind.wrap_i64]; omega
      have eB : (((lo : Int) + (hi : Int)) / 2).toNat = ((lo + hi) / 2) := by omega
      have pB : (0 : Int) ≤ ((lo : Int) + (hi : Int)) / 2 := by omega
      have bB : ((lo : Int) + (hi : Int)) / 2 < (d.size : Int) := by omega
      have rB : IntKind.i64.wrap (((lo : Int) + (hi : Int)) / 2) = ((lo : Int) + (hi : Int)) / 2 := by rw [IntKind.wrap_i64]; omega
      have SH := S1.out.holds RR.out.hblk RR.out.hH (by omega)
      have hbl := S1.out.lt RR.out.hblk
      obtain ⟨vx, hvx⟩ : ∃ v, d[m]! = v := ⟨_, rfl⟩
      obtain ⟨vy, hvy⟩ : ∃ v, d[((lo + hi) / 2)]! = v := ⟨_, rfl⟩
      obtain ⟨x0, x1, x2, -, -, -⟩ := it_at SH (i := m) (by omega) hvx
      obtain ⟨y0, y1, y2, -, -, -⟩ := it_at SH (i := ((lo + hi) / 2)) (by omega) hvy
      have gx0 := fun n os => cell_grown (w := wr) (by exact hbl) x0 n os
      have gx1 := fun n os => cell_grown (w := wr) (by exact hbl) x1 n os
      have gx2 := fun n os => cell_grown (w := wr) (by exact hbl) x2 n os
      have gy0 := fun n os => cell_grown (w := wr) (by exact hbl) y0 n os
      have gy1 := fun n os => cell_grown (w := wr) (by exact hbl) y1 n os
      have gy2 := fun n os => cell_grown (w := wr) (by exact hbl) y2 n os
      have hcg := fun n os => cmp_grown vx vy wr n os
      have CLS : Aside (∀ n os, SWK fT 3 w0 blk off d (grow (wr.drewN n) os)) := fun n os => S1.out.grown n os
      have HV : Aside (d[m]! = vx ∧ d[((lo + hi) / 2)]! = vy) := ⟨hvx, hvy⟩
      clear SH x0 x1 x2 y0 y1 y2 hvx hvy S1 hbl
      have mixed : Try.prog.follows .mixedOrders = true := by kernel_rfl
      by_cases hc : cfT vx vy < 0
      · have HC : Aside (ltT d[m]! d[((lo + hi) / 2)]!) := by rw [HV.out.1, HV.out.2]; exact cfT_lt.1 hc
        have hcb : decide (cfT vx vy < 0) = true := decide_eq_true hc
        clear hc
        go_wp2_with fail
        go_quiet_grown (first | (go_at_call 22; refine Calls.grown_of (hcg _ _)))
        have S2 : Aside (SWK fT 3 w0 blk off d (grow (wr.drewN nq) osq)) := CLS.out nq osq
        generalize grow (wr.drewN nq) osq = wq at S2 ⊢
        clear CLS hcg gx0 gx1 gx2 gy0 gy1 gy2 mixed
        go_wp2_with fail
        go_roundg ((lo + hi) / 2 - lo)
        case measure => omega
        case rel => exact ⟨lo, (lo + hi) / 2, rfl, by rw [show ((lo : Int) + (hi : Int)) / 2 = (((lo + hi) / 2 : Nat) : Int) by omega], by omega, by omega, by omega, by omega, S2, HL, .inr HC.out⟩
      · have HC : Aside (¬ ltT d[m]! d[((lo + hi) / 2)]!) := by rw [HV.out.1, HV.out.2]; exact fun h => hc (cfT_lt.2 h)
        have hcb : decide (cfT vx vy < 0) = false := decide_eq_false hc
        clear hc
        go_wp2_with fail
        go_quiet_grown (first | (go_at_call 22; refine Calls.grown_of (hcg _ _)))
        have S2 : Aside (SWK fT 3 w0 blk off d (grow (wr.drewN nq) osq)) := CLS.out nq osq
        generalize grow (wr.drewN nq) osq = wq at S2 ⊢
        clear CLS hcg gx0 gx1 gx2 gy0 gy1 gy2 mixed
        go_wp2_with fail
        go_roundg (hi - ((lo + hi) / 2 + 1))
        case measure => omega
        case rel => exact ⟨(lo + hi) / 2 + 1, hi, by rw [show ((lo : Int) + (hi : Int)) / 2 + 1 = (((lo + hi) / 2 + 1 : Nat) : Int) by omega], rfl, by omega, by omega, by omega, by omega, S2, .inr (by simpa using HC.out), HH⟩

    · obtain rfl : lo = hi := by omega
      have hltz : ¬ (lo : Int) < (lo : Int) := by omega
      clear hlt
      go_wp2_with fail
      go_loopg [17] (m - lo) (fun kx s13 wr2 => ∃ (k : Nat) (dk : Array It), s13 = .int .i64 k ∧ lo ≤ k ∧ k ≤ m ∧ k - lo ≤ kx ∧ Aside (SWK fT 3 w0 blk off dk wr2) ∧ Aside (Rot k m (m + 1) d dk))
      case atStart => exact ⟨m, d, rfl, by omega, by omega, by omega, S1, Rot.refl1 d (by omega)⟩
      case round =>
        clear S1
        obtain ⟨k, dk, rfl, hak, hkl, hkx2, S1, HW⟩ := hrel
        have hds : dk.size = d.size := HW.out.size
        by_cases hk : lo < k
        · obtain ⟨kp, rfl⟩ : ∃ kp, k = kp + 1 := ⟨k - 1, by omega⟩
          have hkz : (lo : Int) < (kp : Int) + 1 := by omega
          have W2 : Aside (Rot kp m (m + 1) d (swp dk (kp + 1) kp)) := swp_right HW.out (by omega) (by omega)
          have hkp : IntKind.i64.wrap ((kp : Int) + 1 - 1) = (kp : Int) := by rw [IntKind.wrap_i64]; omega
          go_wp2_with fail
          have eA : ((kp : Int) + 1).toNat = (kp + 1) := by omega
          have pA : (0 : Int) ≤ (kp : Int) + 1 := by omega
          have bA : (kp : Int) + 1 < (d.size : Int) := by omega
          have rA : IntKind.i64.wrap ((kp : Int) + 1) = (kp : Int) + 1 := by rw [IntKind.wrap_i64]; omega
          have eB : ((kp : Int)).toNat = kp := by omega
          have pB : (0 : Int) ≤ (kp : Int) := by omega
          have bB : (kp : Int) < (d.size : Int) := by omega
          have rB : IntKind.i64.wrap ((kp : Int)) = (kp : Int) := by rw [IntKind.wrap_i64]; omega
          have S2 : Aside (SWK fT 3 w0 blk off (swp dk (kp + 1) kp) ((wr.drew.setCells blk (off + (kp + 1) * 3) (fT dk[kp]!)).setCells blk (off + kp * 3) (fT dk[(kp + 1)]!))) := S1.out.swapped RR.out (kp + 1) kp (by omega) (by omega)
          have SH := S1.out.holds RR.out.hblk RR.out.hH (by omega)
          obtain ⟨vx, hvx⟩ : ∃ v, dk[(kp + 1)]! = v := ⟨_, rfl⟩
          obtain ⟨vy, hvy⟩ : ∃ v, dk[kp]! = v := ⟨_, rfl⟩
          obtain ⟨x0, x1, x2, fx0, fx1, fx2⟩ := it_at SH (i := (kp + 1)) (by omega) hvx
          obtain ⟨y0, y1, y2, fy0, fy1, fy2⟩ := it_at SH (i := kp) (by omega) hvy
          clear SH
          rw [hvx, hvy] at S2
          simp only [fT, World.setCells, drew_setCell, add11] at S2
          clear hvx hvy
          have mixed : Try.prog.follows .mixedOrders = true := by kernel_rfl
          clear S1
          go_wp2_with fail
          go_big_region_o
          clear x0 x1 x2 fx0 fx1 fx2 y0 y1 y2 fy0 fy1 fy2 mixed
          generalize (((((((wr.setCell ⟨blk, off + (kp + 1) * 3, none⟩ (.int .i64 vy.k)).setCell ⟨blk, off + (kp + 1) * 3 + 1, none⟩ (.int .i64 vy.v)).setCell ⟨blk, off + (kp + 1) * 3 + 2, none⟩ (.int .i64 vy.d)).setCell ⟨blk, off + kp * 3, none⟩ (.int .i64 vx.k)).setCell ⟨blk, off + kp * 3 + 1, none⟩ (.int .i64 vx.v)).setCell ⟨blk, off + kp * 3 + 2, none⟩ (.int .i64 vx.d)).drew) = w2 at S2 ⊢
          go_wp2_with fail
          go_roundg (kp - lo)
          case measure => omega
          case rel => exact ⟨kp, _, by first | rfl | go_num, by omega, by omega, by omega, S2, W2⟩
        · obtain rfl : lo = k := by omega
          have hkz : ¬ (lo : Int) < (lo : Int) := by omega
          go_wp2_with fail
          refine bodyPost_ret (results_none rfl _ _ _) rfl ?_
          obtain rfl := HM.out
          exact ⟨rfl, dk, mrg_last HR.out h1 hkl hb HL.out HH.out HW.out, S1.out⟩
set_option maxHeartbeats 6400000 in
set_option maxRecDepth 1000000 in
theorem symC (blk off cap a m b : Nat) (d0 d : Array It) (w0 w : World) (R : RowK fT 3 w0 blk off d0) (hs : d0.size = d.size) (S : SWK fT 3 w0 blk off d w) (ham : a + 1 < m) (hmb : m + 1 < b) (hl : SrtI a m d) (hr : SrtI m b d) (IH : ∀ (a' m' b' : Nat) (d' : Array It) (w' : World), b' - a' < b - a → a' < m' → m' < b' → b' ≤ d'.size → d0.size = d'.size → SrtI a' m' d' → SrtI m' b' d' → SWK fT 3 w0 blk off d' w' → Mg blk off cap d0 d' w0 w' a' m' b') (mid : Nat) (hmid : mid = (a + b) / 2) (hm : mid < m) (hb : b ≤ d.size) (hsz : d.size < 4611686018427387904) :
    Mg blk off cap d0 d w0 w a m b := by
  have S0 : Aside (SWK fT 3 w0 blk off d w) := S
  have RR : Aside (RowK fT 3 w0 blk off d0) := R
  have HL0 : Aside (SrtI a m d) := hl
  have HR0 : Aside (SrtI m b d) := hr
  clear hl hr
  clear S R
  unfold Mg
  go_enter Try.func52, Try.ntmps52
  have hma : ¬ (m : Int) - (a : Int) = 1 := by omega
  have hmab : ((m : Int) - (a : Int) == 1) = false := by simp; omega
  have hbm2 : ¬ (b : Int) - (m : Int) = 1 := by omega
  have hbmb : ((b : Int) - (m : Int) == 1) = false := by simp; omega
  have hmidz : ((a : Int) + (b : Int)) / 2 = (mid : Int) := by omega
  have hmz : (mid : Int) < (m : Int) := by omega
  have hab1 : a < mid := by omega
  have hab2 : mid < b := by omega
  have hab3 : 2 * mid ≤ a + b := by omega
  have hab4 : a + b ≤ 2 * mid + 1 := by omega
  clear hmid
  go_wp2_with fail
  go_loopg [20, 21] (b - a) (fun kx s20 s21 wr => ∃ lo hi : Nat, s20 = .int .i64 lo ∧ s21 = .int .i64 hi ∧ (mid + m - b) ≤ lo ∧ lo ≤ hi ∧ hi ≤ mid ∧ hi - lo ≤ kx ∧ Aside (SWK fT 3 w0 blk off d wr) ∧ Aside (lo = (mid + m - b) ∨ ¬ ltT d[mid + m - lo]! d[lo - 1]!) ∧ Aside (hi = mid ∨ ltT d[mid + m - 1 - hi]! d[hi]!))
  case atStart => exact ⟨(mid + m - b), mid, by first | rfl | go_num, by first | rfl | go_num, by omega, by omega, by omega, by omega, S0, .inl rfl, .inl rfl⟩
  case round =>
    clear S0
    obtain ⟨lo, hi, rfl, rfl, h1, h2, h3, hkx, S1, HL, HH⟩ := hrel
    by_cases hlt : lo < hi
    · have hltz : (lo : Int) < (hi : Int) := by omega
      obtain ⟨c, hc1, hc2⟩ : ∃ c, 2 * c ≤ lo + hi ∧ lo + hi ≤ 2 * c + 1 := ⟨(lo + hi) / 2, by omega, by omega⟩
      have hcz : ((lo : Int) + (hi : Int)) / 2 = (c : Int) := by omega
      obtain ⟨q, hq1, hq2⟩ : ∃ q, q + c + 1 ≤ mid + m ∧ mid + m ≤ q + c + 1 := ⟨mid + m - 1 - c, by omega, by omega⟩
      have hqz : (mid : Int) + (m : Int) - 1 - (c : Int) = (q : Int) := by omega
      have eA : ((q : Int)).toNat = q := by omega
      have pA : (0 : Int) ≤ (q : Int) := by omega
      have bA : (q : Int) < (d.size : Int) := by omega
      have rA : IntKind.i64.wrap ((q : Int)) = (q : Int) := by rw [IntKind.wrap_i64]; omega
      have eB : ((c : Int)).toNat = c := by omega
      have pB : (0 : Int) ≤ (c : Int) := by omega
      have bB : (c : Int) < (d.size : Int) := by omega
      have rB : IntKind.i64.wrap ((c : Int)) = (c : Int) := by rw [IntKind.wrap_i64]; omega
      have SH := S1.out.holds RR.out.hblk RR.out.hH (by omega)
      have hbl := S1.out.lt RR.out.hblk
      obtain ⟨vx, hvx⟩ : ∃ v, d[q]! = v := ⟨_, rfl⟩
      obtain ⟨vy, hvy⟩ : ∃ v, d[c]! = v := ⟨_, rfl⟩
      obtain ⟨x0, x1, x2, -, -, -⟩ := it_at SH (i := q) (by omega) hvx
      obtain ⟨y0, y1, y2, -, -, -⟩ := it_at SH (i := c) (by omega) hvy
      have gx0 := fun n os => cell_grown (w := wr) (by exact hbl) x0 n os
      have gx1 := fun n os => cell_grown (w := wr) (by exact hbl) x1 n os
      have gx2 := fun n os => cell_grown (w := wr) (by exact hbl) x2 n os
      have gy0 := fun n os => cell_grown (w := wr) (by exact hbl) y0 n os
      have gy1 := fun n os => cell_grown (w := wr) (by exact hbl) y1 n os
      have gy2 := fun n os => cell_grown (w := wr) (by exact hbl) y2 n os
      have hcg := fun n os => cmp_grown vx vy wr n os
      have CLS : Aside (∀ n os, SWK fT 3 w0 blk off d (grow (wr.drewN n) os)) := fun n os => S1.out.grown n os
      have HV : Aside (d[q]! = vx ∧ d[c]! = vy) := ⟨hvx, hvy⟩
      clear SH x0 x1 x2 y0 y1 y2 hvx hvy S1 hbl
      have mixed : Try.prog.follows .mixedOrders = true := by kernel_rfl
      by_cases hc : cfT vx vy < 0
      · have HC : Aside (ltT d[q]! d[c]!) := by rw [HV.out.1, HV.out.2]; exact cfT_lt.1 hc
        have hcb : decide (cfT vx vy < 0) = true := decide_eq_true hc
        clear hc
        go_wp2_with fail
        go_quiet_grown (first | (go_at_call 22; refine Calls.grown_of (hcg _ _)))
        have S2 : Aside (SWK fT 3 w0 blk off d (grow (wr.drewN nq) osq)) := CLS.out nq osq
        generalize grow (wr.drewN nq) osq = wq at S2 ⊢
        clear CLS hcg gx0 gx1 gx2 gy0 gy1 gy2 mixed
        go_wp2_with fail
        go_roundg (c - lo)
        case measure => omega
        case rel => exact ⟨lo, c, rfl, by first | rfl | go_num, by omega, by omega, by omega, by omega, S2, HL, .inr (by rw [show mid + m - 1 - c = q by omega]; exact HC.out)⟩
      · have HC : Aside (¬ ltT d[q]! d[c]!) := by rw [HV.out.1, HV.out.2]; exact fun h => hc (cfT_lt.2 h)
        have hcb : decide (cfT vx vy < 0) = false := decide_eq_false hc
        clear hc
        go_wp2_with fail
        go_quiet_grown (first | (go_at_call 22; refine Calls.grown_of (hcg _ _)))
        have S2 : Aside (SWK fT 3 w0 blk off d (grow (wr.drewN nq) osq)) := CLS.out nq osq
        generalize grow (wr.drewN nq) osq = wq at S2 ⊢
        clear CLS hcg gx0 gx1 gx2 gy0 gy1 gy2 mixed
        go_wp2_with fail
        go_roundg (hi - (c + 1))
        case measure => omega
        case rel => exact ⟨c + 1, hi, by first | rfl | go_num, rfl, by omega, by omega, by omega, by omega, S2, .inr (by rw [show mid + m - (c + 1) = q by omega]; simpa using HC.out), HH⟩
    · obtain rfl : lo = hi := by omega
      have hltz : ¬ (lo : Int) < (lo : Int) := by omega
      clear hlt
      have CU : Aside (Cut a m b mid lo d) := ⟨by omega, by omega, by omega, by omega, HL.out.elim (fun e => by omega) (fun h => .inr (.inr h)), HH.out.elim (fun e => by omega) (fun h => .inr (.inr h))⟩
      have hend : IntKind.i64.wrap ((mid : Int) + (m : Int) - (lo : Int)) = ((mid + m - lo : Nat) : Int) := by rw [IntKind.wrap_i64]; omega
      have hc1 := CU.out.lo
      have hc2 := CU.out.le
      have hc3 := CU.out.lm
      have hc4 := CU.out.hi
      clear HL HH h1 h2 h3
      by_cases h3 : lo < m ∧ lo < mid
      · skip
        by_cases h4 : a < lo
        · by_cases h5 : mid + m - lo < b
          · skip
            have hf0 : (lo : Int) < (m : Int) := by omega
            have hf1 : (m : Int) < ((mid + m - lo : Nat) : Int) := by omega
            have hf2 : (a : Int) < (lo : Int) := by omega
            have hf3 : (lo : Int) < (mid : Int) := by omega
            have hf4 : (mid : Int) < ((mid + m - lo : Nat) : Int) := by omega
            have hf5 : ((mid + m - lo : Nat) : Int) < (b : Int) := by omega
            have H := rotate_any 22 #[] blk off cap lo m (mid + m - lo) d0 d w0 wr RR.out hs S1.out (by omega) (by omega) (by omega) hsz
            go_wp2_with fail
            refine H.mono ?_
            rintro e w2 ⟨rfl, d1, RT', S2'⟩
            clear H S1
            have RT : Aside (Rot lo m (mid + m - lo) d d1) := RT'
            have S2 : Aside (SWK fT 3 w0 blk off d1 w2) := S2'
            clear RT' S2'
            have PT : Aside (SrtI a lo d1 ∧ SrtI lo mid d1 ∧ SrtI mid (mid + m - lo) d1 ∧ SrtI (mid + m - lo) b d1 ∧ ∀ i j, a ≤ i → i < mid → mid ≤ j → j < b → leT d1[i]! d1[j]!) := CU.out.parts (by omega) (by omega) (by omega) HL0.out HR0.out RT.out
            have hs1 : d1.size = d.size := RT.out.size
            have H := IH a lo mid d1 w2 (by omega) (by omega) (by omega) (by omega) (by omega) PT.out.1 PT.out.2.1 S2.out
            unfold Mg at H
            rw [hs1] at H
            go_wp2_with fail
            refine H.mono ?_
            rintro e w3 ⟨rfl, d2, M2', S3'⟩
            clear H
            have M2 : Aside (SrtI a mid d2 ∧ Mrg a mid d1 d2) := M2'
            have S3 : Aside (SWK fT 3 w0 blk off d2 w3) := S3'
            clear M2' S3' S2
            have P3 : Aside (SrtI mid (mid + m - lo) d2 ∧ SrtI (mid + m - lo) b d2) := ⟨fun i j i1 i2 i3 => by rw [M2.out.2.out _ (.inr i1), M2.out.2.out _ (.inr (by omega))]; exact PT.out.2.2.1 i j i1 i2 i3, fun i j i1 i2 i3 => by rw [M2.out.2.out _ (.inr (by omega)), M2.out.2.out _ (.inr (by omega))]; exact PT.out.2.2.2.1 i j i1 i2 i3⟩
            have hs2 : d2.size = d.size := M2.out.2.size.trans RT.out.size
            have H := IH mid (mid + m - lo) b d2 w3 (by omega) (by omega) (by omega) (by omega) (by omega) P3.out.1 P3.out.2 S3.out
            unfold Mg at H
            rw [hs2] at H
            go_wp2_with fail
            refine H.mono ?_
            rintro e w' ⟨rfl, d3, M3, S4⟩
            clear H
            have X := mrg_both (by omega) (by omega) PT.out.2.2.2.2 M2.out.1 M2.out.2 M3.1 M3.2
            have XX : Aside (SrtI a b d3 ∧ Mrg a b d d3) := ⟨X.1, (CU.out.mrg (by omega) (by omega) hb HL0.out HR0.out RT.out).trans X.2⟩
            have S5 : Aside (SWK fT 3 w0 blk off d3 w') := S4
            clear X M3 S4 P3 PT RT M2 CU S3
            go_wp2_with fail
            go_end0
            exact ⟨rfl, d3, XX.out, S5.out⟩
          · skip
            have hf0 : (lo : Int) < (m : Int) := by omega
            have hf1 : (m : Int) < ((mid + m - lo : Nat) : Int) := by omega
            have hf2 : (a : Int) < (lo : Int) := by omega
            have hf3 : (lo : Int) < (mid : Int) := by omega
            have hf4 : (mid : Int) < ((mid + m - lo : Nat) : Int) := by omega
            have hf5 : ¬ ((mid + m - lo : Nat) : Int) < (b : Int) := by omega
            have H := rotate_any 22 #[] blk off cap lo m (mid + m - lo) d0 d w0 wr RR.out hs S1.out (by omega) (by omega) (by omega) hsz
            go_wp2_with fail
            refine H.mono ?_
            rintro e w2 ⟨rfl, d1, RT', S2'⟩
            clear H S1
            have RT : Aside (Rot lo m (mid + m - lo) d d1) := RT'
            have S2 : Aside (SWK fT 3 w0 blk off d1 w2) := S2'
            clear RT' S2'
            have PT : Aside (SrtI a lo d1 ∧ SrtI lo mid d1 ∧ SrtI mid (mid + m - lo) d1 ∧ SrtI (mid + m - lo) b d1 ∧ ∀ i j, a ≤ i → i < mid → mid ≤ j → j < b → leT d1[i]! d1[j]!) := CU.out.parts (by omega) (by omega) (by omega) HL0.out HR0.out RT.out
            have hs1 : d1.size = d.size := RT.out.size
            have H := IH a lo mid d1 w2 (by omega) (by omega) (by omega) (by omega) (by omega) PT.out.1 PT.out.2.1 S2.out
            unfold Mg at H
            rw [hs1] at H
            go_wp2_with fail
            refine H.mono ?_
            rintro e w3 ⟨rfl, d2, M2', S3'⟩
            clear H
            have M2 : Aside (SrtI a mid d2 ∧ Mrg a mid d1 d2) := M2'
            have S3 : Aside (SWK fT 3 w0 blk off d2 w3) := S3'
            clear M2' S3' S2
            have P3 : Aside (SrtI mid (mid + m - lo) d2 ∧ SrtI (mid + m - lo) b d2) := ⟨fun i j i1 i2 i3 => by rw [M2.out.2.out _ (.inr i1), M2.out.2.out _ (.inr (by omega))]; exact PT.out.2.2.1 i j i1 i2 i3, fun i j i1 i2 i3 => by rw [M2.out.2.out _ (.inr (by omega)), M2.out.2.out _ (.inr (by omega))]; exact PT.out.2.2.2.1 i j i1 i2 i3⟩
            have hs2 : d2.size = d.size := M2.out.2.size.trans RT.out.size
            have M3 : SrtI mid b d2 := by
              have e2 : mid + m - lo = b := by omega
              have := P3.out.1; rwa [e2] at this
            have X := mrg_both (by omega) (by omega) PT.out.2.2.2.2 M2.out.1 M2.out.2 M3 (Mrg.refl mid b d2)
            have XX : Aside (SrtI a b d2 ∧ Mrg a b d d2) := ⟨X.1, (CU.out.mrg (by omega) (by omega) hb HL0.out HR0.out RT.out).trans X.2⟩
            clear X M3 P3 PT RT M2 CU
            go_wp2_with fail
            go_end0
            exact ⟨rfl, d2, XX.out, S3.out⟩
        · by_cases h5 : mid + m - lo < b
          · skip
            have hf0 : (lo : Int) < (m : Int) := by omega
            have hf1 : (m : Int) < ((mid + m - lo : Nat) : Int) := by omega
            have hf2 : ¬ (a : Int) < (lo : Int) := by omega
            have hf3 : (mid : Int) < ((mid + m - lo : Nat) : Int) := by omega
            have hf4 : ((mid + m - lo : Nat) : Int) < (b : Int) := by omega
            have H := rotate_any 22 #[] blk off cap lo m (mid + m - lo) d0 d w0 wr RR.out hs S1.out (by omega) (by omega) (by omega) hsz
            go_wp2_with fail
            refine H.mono ?_
            rintro e w2 ⟨rfl, d1, RT', S2'⟩
            clear H S1
            have RT : Aside (Rot lo m (mid + m - lo) d d1) := RT'
            have S2 : Aside (SWK fT 3 w0 blk off d1 w2) := S2'
            clear RT' S2'
            have PT : Aside (SrtI a lo d1 ∧ SrtI lo mid d1 ∧ SrtI mid (mid + m - lo) d1 ∧ SrtI (mid + m - lo) b d1 ∧ ∀ i j, a ≤ i → i < mid → mid ≤ j → j < b → leT d1[i]! d1[j]!) := CU.out.parts (by omega) (by omega) (by omega) HL0.out HR0.out RT.out
            have hs1 : d1.size = d.size := RT.out.size
            have M2 : Aside (SrtI a mid d1 ∧ Mrg a mid d1 d1) := by
              refine ⟨?_, Mrg.refl a mid d1⟩
              have e2 : lo = a := by omega
              have := PT.out.2.1; rwa [e2] at this
            obtain ⟨d2, hd2⟩ : ∃ d2, d2 = d1 := ⟨_, rfl⟩
            obtain ⟨w3, hw3⟩ : ∃ w3, w3 = w2 := ⟨_, rfl⟩
            have M2 : Aside (SrtI a mid d2 ∧ Mrg a mid d1 d2) := by rw [hd2]; exact M2
            have S3 : Aside (SWK fT 3 w0 blk off d2 w3) := by rw [hd2, hw3]; exact S2
            rw [← hw3]
            clear hd2 hw3 S2
            have P3 : Aside (SrtI mid (mid + m - lo) d2 ∧ SrtI (mid + m - lo) b d2) := ⟨fun i j i1 i2 i3 => by rw [M2.out.2.out _ (.inr i1), M2.out.2.out _ (.inr (by omega))]; exact PT.out.2.2.1 i j i1 i2 i3, fun i j i1 i2 i3 => by rw [M2.out.2.out _ (.inr (by omega)), M2.out.2.out _ (.inr (by omega))]; exact PT.out.2.2.2.1 i j i1 i2 i3⟩
            have hs2 : d2.size = d.size := M2.out.2.size.trans RT.out.size
            have H := IH mid (mid + m - lo) b d2 w3 (by omega) (by omega) (by omega) (by omega) (by omega) P3.out.1 P3.out.2 S3.out
            unfold Mg at H
            rw [hs2] at H
            go_wp2_with fail
            refine H.mono ?_
            rintro e w' ⟨rfl, d3, M3, S4⟩
            clear H
            have X := mrg_both (by omega) (by omega) PT.out.2.2.2.2 M2.out.1 M2.out.2 M3.1 M3.2
            have XX : Aside (SrtI a b d3 ∧ Mrg a b d d3) := ⟨X.1, (CU.out.mrg (by omega) (by omega) hb HL0.out HR0.out RT.out).trans X.2⟩
            have S5 : Aside (SWK fT 3 w0 blk off d3 w') := S4
            clear X M3 S4 P3 PT RT M2 CU S3
            go_wp2_with fail
            go_end0
            exact ⟨rfl, d3, XX.out, S5.out⟩
          · skip
            have hf0 : (lo : Int) < (m : Int) := by omega
            have hf1 : (m : Int) < ((mid + m - lo : Nat) : Int) := by omega
            have hf2 : ¬ (a : Int) < (lo : Int) := by omega
            have hf3 : (mid : Int) < ((mid + m - lo : Nat) : Int) := by omega
            have hf4 : ¬ ((mid + m - lo : Nat) : Int) < (b : Int) := by omega
            have H := rotate_any 22 #[] blk off cap lo m (mid + m - lo) d0 d w0 wr RR.out hs S1.out (by omega) (by omega) (by omega) hsz
            go_wp2_with fail
            refine H.mono ?_
            rintro e w2 ⟨rfl, d1, RT', S2'⟩
            clear H S1
            have RT : Aside (Rot lo m (mid + m - lo) d d1) := RT'
            have S2 : Aside (SWK fT 3 w0 blk off d1 w2) := S2'
            clear RT' S2'
            have PT : Aside (SrtI a lo d1 ∧ SrtI lo mid d1 ∧ SrtI mid (mid + m - lo) d1 ∧ SrtI (mid + m - lo) b d1 ∧ ∀ i j, a ≤ i → i < mid → mid ≤ j → j < b → leT d1[i]! d1[j]!) := CU.out.parts (by omega) (by omega) (by omega) HL0.out HR0.out RT.out
            have hs1 : d1.size = d.size := RT.out.size
            have M2 : Aside (SrtI a mid d1 ∧ Mrg a mid d1 d1) := by
              refine ⟨?_, Mrg.refl a mid d1⟩
              have e2 : lo = a := by omega
              have := PT.out.2.1; rwa [e2] at this
            obtain ⟨d2, hd2⟩ : ∃ d2, d2 = d1 := ⟨_, rfl⟩
            obtain ⟨w3, hw3⟩ : ∃ w3, w3 = w2 := ⟨_, rfl⟩
            have M2 : Aside (SrtI a mid d2 ∧ Mrg a mid d1 d2) := by rw [hd2]; exact M2
            have S3 : Aside (SWK fT 3 w0 blk off d2 w3) := by rw [hd2, hw3]; exact S2
            rw [← hw3]
            clear hd2 hw3 S2
            have P3 : Aside (SrtI mid (mid + m - lo) d2 ∧ SrtI (mid + m - lo) b d2) := ⟨fun i j i1 i2 i3 => by rw [M2.out.2.out _ (.inr i1), M2.out.2.out _ (.inr (by omega))]; exact PT.out.2.2.1 i j i1 i2 i3, fun i j i1 i2 i3 => by rw [M2.out.2.out _ (.inr (by omega)), M2.out.2.out _ (.inr (by omega))]; exact PT.out.2.2.2.1 i j i1 i2 i3⟩
            have hs2 : d2.size = d.size := M2.out.2.size.trans RT.out.size
            have M3 : SrtI mid b d2 := by
              have e2 : mid + m - lo = b := by omega
              have := P3.out.1; rwa [e2] at this
            have X := mrg_both (by omega) (by omega) PT.out.2.2.2.2 M2.out.1 M2.out.2 M3 (Mrg.refl mid b d2)
            have XX : Aside (SrtI a b d2 ∧ Mrg a b d d2) := ⟨X.1, (CU.out.mrg (by omega) (by omega) hb HL0.out HR0.out RT.out).trans X.2⟩
            clear X M3 P3 PT RT M2 CU
            go_wp2_with fail
            go_end0
            exact ⟨rfl, d2, XX.out, S3.out⟩
      · skip
        have hf0 : (lo : Int) < (m : Int) := by omega
        have hf1 : ¬ (m : Int) < ((mid + m - lo : Nat) : Int) := by omega
        have hf2 : (a : Int) < (lo : Int) := by omega
        have hf3 : ¬ (lo : Int) < (mid : Int) := by omega
        have hf4 : (mid : Int) < ((mid + m - lo : Nat) : Int) := by omega
        have hf5 : ((mid + m - lo : Nat) : Int) < (b : Int) := by omega
        have RT : Aside (Rot lo m (mid + m - lo) d d) := by
          show Rot _ _ _ _ _
          have e2 : lo = mid := by omega
          rw [e2, show mid + m - mid = m by omega]; exact Rot.refl2 d (by omega)
        obtain ⟨d1, hd1⟩ : ∃ d1, d1 = d := ⟨_, rfl⟩
        obtain ⟨w2, hw2⟩ : ∃ w2, w2 = wr := ⟨_, rfl⟩
        have S2 : Aside (SWK fT 3 w0 blk off d1 w2) := by rw [hd1, hw2]; exact S1
        have RT : Aside (Rot lo m (mid + m - lo) d d1) := by rw [hd1]; exact RT
        rw [← hw2]
        clear hd1 hw2 S1
        have PT : Aside (SrtI a lo d1 ∧ SrtI lo mid d1 ∧ SrtI mid (mid + m - lo) d1 ∧ SrtI (mid + m - lo) b d1 ∧ ∀ i j, a ≤ i → i < mid → mid ≤ j → j < b → leT d1[i]! d1[j]!) := CU.out.parts (by omega) (by omega) (by omega) HL0.out HR0.out RT.out
        have hs1 : d1.size = d.size := RT.out.size
        have M2 : Aside (SrtI a mid d1 ∧ Mrg a mid d1 d1) := by
          refine ⟨?_, Mrg.refl a mid d1⟩
          have e2 : lo = mid := by omega
          have := PT.out.1; rwa [e2] at this
        obtain ⟨d2, hd2⟩ : ∃ d2, d2 = d1 := ⟨_, rfl⟩
        obtain ⟨w3, hw3⟩ : ∃ w3, w3 = w2 := ⟨_, rfl⟩
        have M2 : Aside (SrtI a mid d2 ∧ Mrg a mid d1 d2) := by rw [hd2]; exact M2
        have S3 : Aside (SWK fT 3 w0 blk off d2 w3) := by rw [hd2, hw3]; exact S2
        rw [← hw3]
        clear hd2 hw3 S2
        have P3 : Aside (SrtI mid (mid + m - lo) d2 ∧ SrtI (mid + m - lo) b d2) := ⟨fun i j i1 i2 i3 => by rw [M2.out.2.out _ (.inr i1), M2.out.2.out _ (.inr (by omega))]; exact PT.out.2.2.1 i j i1 i2 i3, fun i j i1 i2 i3 => by rw [M2.out.2.out _ (.inr (by omega)), M2.out.2.out _ (.inr (by omega))]; exact PT.out.2.2.2.1 i j i1 i2 i3⟩
        have hs2 : d2.size = d.size := M2.out.2.size.trans RT.out.size
        have H := IH mid (mid + m - lo) b d2 w3 (by omega) (by omega) (by omega) (by omega) (by omega) P3.out.1 P3.out.2 S3.out
        unfold Mg at H
        rw [hs2] at H
        go_wp2_with fail
        refine H.mono ?_
        rintro e w' ⟨rfl, d3, M3, S4⟩
        clear H
        have X := mrg_both (by omega) (by omega) PT.out.2.2.2.2 M2.out.1 M2.out.2 M3.1 M3.2
        have XX : Aside (SrtI a b d3 ∧ Mrg a b d d3) := ⟨X.1, (CU.out.mrg (by omega) (by omega) hb HL0.out HR0.out RT.out).trans X.2⟩
        have S5 : Aside (SWK fT 3 w0 blk off d3 w') := S4
        clear X M3 S4 P3 PT RT M2 CU S3
        go_wp2_with fail
        go_end0
        exact ⟨rfl, d3, XX.out, S5.out⟩
set_option maxHeartbeats 6400000 in
set_option maxRecDepth 1000000 in
theorem symD (blk off cap a m b : Nat) (d0 d : Array It) (w0 w : World) (R : RowK fT 3 w0 blk off d0) (hs : d0.size = d.size) (S : SWK fT 3 w0 blk off d w) (ham : a + 1 < m) (hmb : m + 1 < b) (hl : SrtI a m d) (hr : SrtI m b d) (IH : ∀ (a' m' b' : Nat) (d' : Array It) (w' : World), b' - a' < b - a → a' < m' → m' < b' → b' ≤ d'.size → d0.size = d'.size → SrtI a' m' d' → SrtI m' b' d' → SWK fT 3 w0 blk off d' w' → Mg blk off cap d0 d' w0 w' a' m' b') (mid : Nat) (hmid : mid = (a + b) / 2) (hm : ¬ mid < m) (hb : b ≤ d.size) (hsz : d.size < 4611686018427387904) :
    Mg blk off cap d0 d w0 w a m b := by
  have S0 : Aside (SWK fT 3 w0 blk off d w) := S
  have RR : Aside (RowK fT 3 w0 blk off d0) := R
  have HL0 : Aside (SrtI a m d) := hl
  have HR0 : Aside (SrtI m b d) := hr
  clear hl hr
  clear S R
  unfold Mg
  go_enter Try.func52, Try.ntmps52
  have hma : ¬ (m : Int) - (a : Int) = 1 := by omega
  have hmab : ((m : Int) - (a : Int) == 1) = false := by simp; omega
  have hbm2 : ¬ (b : Int) - (m : Int) = 1 := by omega
  have hbmb : ((b : Int) - (m : Int) == 1) = false := by simp; omega
  have hmidz : ((a : Int) + (b : Int)) / 2 = (mid : Int) := by omega
  have hmz : ¬ (mid : Int) < (m : Int) := by omega
  have hab1 : a < mid := by omega
  have hab2 : mid < b := by omega
  have hab3 : 2 * mid ≤ a + b := by omega
  have hab4 : a + b ≤ 2 * mid + 1 := by omega
  clear hmid
  go_wp2_with fail
  go_loopg [20, 21] (b - a) (fun kx s20 s21 wr => ∃ lo hi : Nat, s20 = .int .i64 lo ∧ s21 = .int .i64 hi ∧ a ≤ lo ∧ lo ≤ hi ∧ hi ≤ m ∧ hi - lo ≤ kx ∧ Aside (SWK fT 3 w0 blk off d wr) ∧ Aside (lo = a ∨ ¬ ltT d[mid + m - lo]! d[lo - 1]!) ∧ Aside (hi = m ∨ ltT d[mid + m - 1 - hi]! d[hi]!))
  case atStart => exact ⟨a, m, by first | rfl | go_num, by first | rfl | go_num, by omega, by omega, by omega, by omega, S0, .inl rfl, .inl rfl⟩
  case round =>
    clear S0
    obtain ⟨lo, hi, rfl, rfl, h1, h2, h3, hkx, S1, HL, HH⟩ := hrel
    by_cases hlt : lo < hi
    · have hltz : (lo : Int) < (hi : Int) := by omega
      obtain ⟨c, hc1, hc2⟩ : ∃ c, 2 * c ≤ lo + hi ∧ lo + hi ≤ 2 * c + 1 := ⟨(lo + hi) / 2, by omega, by omega⟩
      have hcz : ((lo : Int) + (hi : Int)) / 2 = (c : Int) := by omega
      obtain ⟨q, hq1, hq2⟩ : ∃ q, q + c + 1 ≤ mid + m ∧ mid + m ≤ q + c + 1 := ⟨mid + m - 1 - c, by omega, by omega⟩
      have hqz : (mid : Int) + (m : Int) - 1 - (c : Int) = (q : Int) := by omega
      have eA : ((q : Int)).toNat = q := by omega
      have pA : (0 : Int) ≤ (q : Int) := by omega
      have bA : (q : Int) < (d.size : Int) := by omega
      have rA : IntKind.i64.wrap ((q : Int)) = (q : Int) := by rw [IntKind.wrap_i64]; omega
      have eB : ((c : Int)).toNat = c := by omega
      have pB : (0 : Int) ≤ (c : Int) := by omega
      have bB : (c : Int) < (d.size : Int) := by omega
      have rB : IntKind.i64.wrap ((c : Int)) = (c : Int) := by rw [IntKind.wrap_i64]; omega
      have SH := S1.out.holds RR.out.hblk RR.out.hH (by omega)
      have hbl := S1.out.lt RR.out.hblk
      obtain ⟨vx, hvx⟩ : ∃ v, d[q]! = v := ⟨_, rfl⟩
      obtain ⟨vy, hvy⟩ : ∃ v, d[c]! = v := ⟨_, rfl⟩
      obtain ⟨x0, x1, x2, -, -, -⟩ := it_at SH (i := q) (by omega) hvx
      obtain ⟨y0, y1, y2, -, -, -⟩ := it_at SH (i := c) (by omega) hvy
      have gx0 := fun n os => cell_grown (w := wr) (by exact hbl) x0 n os
      have gx1 := fun n os => cell_grown (w := wr) (by exact hbl) x1 n os
      have gx2 := fun n os => cell_grown (w := wr) (by exact hbl) x2 n os
      have gy0 := fun n os => cell_grown (w := wr) (by exact hbl) y0 n os
      have gy1 := fun n os => cell_grown (w := wr) (by exact hbl) y1 n os
      have gy2 := fun n os => cell_grown (w := wr) (by exact hbl) y2 n os
      have hcg := fun n os => cmp_grown vx vy wr n os
      have CLS : Aside (∀ n os, SWK fT 3 w0 blk off d (grow (wr.drewN n) os)) := fun n os => S1.out.grown n os
      have HV : Aside (d[q]! = vx ∧ d[c]! = vy) := ⟨hvx, hvy⟩
      clear SH x0 x1 x2 y0 y1 y2 hvx hvy S1 hbl
      have mixed : Try.prog.follows .mixedOrders = true := by kernel_rfl
      by_cases hc : cfT vx vy < 0
      · have HC : Aside (ltT d[q]! d[c]!) := by rw [HV.out.1, HV.out.2]; exact cfT_lt.1 hc
        have hcb : decide (cfT vx vy < 0) = true := decide_eq_true hc
        clear hc
        go_wp2_with fail
        go_quiet_grown (first | (go_at_call 22; refine Calls.grown_of (hcg _ _)))
        have S2 : Aside (SWK fT 3 w0 blk off d (grow (wr.drewN nq) osq)) := CLS.out nq osq
        generalize grow (wr.drewN nq) osq = wq at S2 ⊢
        clear CLS hcg gx0 gx1 gx2 gy0 gy1 gy2 mixed
        go_wp2_with fail
        go_roundg (c - lo)
        case measure => omega
        case rel => exact ⟨lo, c, rfl, by first | rfl | go_num, by omega, by omega, by omega, by omega, S2, HL, .inr (by rw [show mid + m - 1 - c = q by omega]; exact HC.out)⟩
      · have HC : Aside (¬ ltT d[q]! d[c]!) := by rw [HV.out.1, HV.out.2]; exact fun h => hc (cfT_lt.2 h)
        have hcb : decide (cfT vx vy < 0) = false := decide_eq_false hc
        clear hc
        go_wp2_with fail
        go_quiet_grown (first | (go_at_call 22; refine Calls.grown_of (hcg _ _)))
        have S2 : Aside (SWK fT 3 w0 blk off d (grow (wr.drewN nq) osq)) := CLS.out nq osq
        generalize grow (wr.drewN nq) osq = wq at S2 ⊢
        clear CLS hcg gx0 gx1 gx2 gy0 gy1 gy2 mixed
        go_wp2_with fail
        go_roundg (hi - (c + 1))
        case measure => omega
        case rel => exact ⟨c + 1, hi, by first | rfl | go_num, rfl, by omega, by omega, by omega, by omega, S2, .inr (by rw [show mid + m - (c + 1) = q by omega]; simpa using HC.out), HH⟩
    · obtain rfl : lo = hi := by omega
      have hltz : ¬ (lo : Int) < (lo : Int) := by omega
      clear hlt
      have CU : Aside (Cut a m b mid lo d) := ⟨by omega, by omega, by omega, by omega, HL.out.elim (fun e => by omega) (fun h => .inr (.inr h)), HH.out.elim (fun e => by omega) (fun h => .inr (.inr h))⟩
      have hend : IntKind.i64.wrap ((mid : Int) + (m : Int) - (lo : Int)) = ((mid + m - lo : Nat) : Int) := by rw [IntKind.wrap_i64]; omega
      have hc1 := CU.out.lo
      have hc2 := CU.out.le
      have hc3 := CU.out.lm
      have hc4 := CU.out.hi
      clear HL HH h1 h2 h3
      by_cases h3 : lo < m ∧ lo < mid
      · skip
        by_cases h4 : a < lo
        · by_cases h5 : mid + m - lo < b
          · skip
            have hf0 : (lo : Int) < (m : Int) := by omega
            have hf1 : (m : Int) < ((mid + m - lo : Nat) : Int) := by omega
            have hf2 : (a : Int) < (lo : Int) := by omega
            have hf3 : (lo : Int) < (mid : Int) := by omega
            have hf4 : (mid : Int) < ((mid + m - lo : Nat) : Int) := by omega
            have hf5 : ((mid + m - lo : Nat) : Int) < (b : Int) := by omega
            have H := rotate_any 22 #[] blk off cap lo m (mid + m - lo) d0 d w0 wr RR.out hs S1.out (by omega) (by omega) (by omega) hsz
            go_wp2_with fail
            refine H.mono ?_
            rintro e w2 ⟨rfl, d1, RT', S2'⟩
            clear H S1
            have RT : Aside (Rot lo m (mid + m - lo) d d1) := RT'
            have S2 : Aside (SWK fT 3 w0 blk off d1 w2) := S2'
            clear RT' S2'
            have PT : Aside (SrtI a lo d1 ∧ SrtI lo mid d1 ∧ SrtI mid (mid + m - lo) d1 ∧ SrtI (mid + m - lo) b d1 ∧ ∀ i j, a ≤ i → i < mid → mid ≤ j → j < b → leT d1[i]! d1[j]!) := CU.out.parts (by omega) (by omega) (by omega) HL0.out HR0.out RT.out
            have hs1 : d1.size = d.size := RT.out.size
            have H := IH a lo mid d1 w2 (by omega) (by omega) (by omega) (by omega) (by omega) PT.out.1 PT.out.2.1 S2.out
            unfold Mg at H
            rw [hs1] at H
            go_wp2_with fail
            refine H.mono ?_
            rintro e w3 ⟨rfl, d2, M2', S3'⟩
            clear H
            have M2 : Aside (SrtI a mid d2 ∧ Mrg a mid d1 d2) := M2'
            have S3 : Aside (SWK fT 3 w0 blk off d2 w3) := S3'
            clear M2' S3' S2
            have P3 : Aside (SrtI mid (mid + m - lo) d2 ∧ SrtI (mid + m - lo) b d2) := ⟨fun i j i1 i2 i3 => by rw [M2.out.2.out _ (.inr i1), M2.out.2.out _ (.inr (by omega))]; exact PT.out.2.2.1 i j i1 i2 i3, fun i j i1 i2 i3 => by rw [M2.out.2.out _ (.inr (by omega)), M2.out.2.out _ (.inr (by omega))]; exact PT.out.2.2.2.1 i j i1 i2 i3⟩
            have hs2 : d2.size = d.size := M2.out.2.size.trans RT.out.size
            have H := IH mid (mid + m - lo) b d2 w3 (by omega) (by omega) (by omega) (by omega) (by omega) P3.out.1 P3.out.2 S3.out
            unfold Mg at H
            rw [hs2] at H
            go_wp2_with fail
            refine H.mono ?_
            rintro e w' ⟨rfl, d3, M3, S4⟩
            clear H
            have X := mrg_both (by omega) (by omega) PT.out.2.2.2.2 M2.out.1 M2.out.2 M3.1 M3.2
            have XX : Aside (SrtI a b d3 ∧ Mrg a b d d3) := ⟨X.1, (CU.out.mrg (by omega) (by omega) hb HL0.out HR0.out RT.out).trans X.2⟩
            have S5 : Aside (SWK fT 3 w0 blk off d3 w') := S4
            clear X M3 S4 P3 PT RT M2 CU S3
            go_wp2_with fail
            go_end0
            exact ⟨rfl, d3, XX.out, S5.out⟩
          · skip
            have hf0 : (lo : Int) < (m : Int) := by omega
            have hf1 : (m : Int) < ((mid + m - lo : Nat) : Int) := by omega
            have hf2 : (a : Int) < (lo : Int) := by omega
            have hf3 : (lo : Int) < (mid : Int) := by omega
            have hf4 : (mid : Int) < ((mid + m - lo : Nat) : Int) := by omega
            have hf5 : ¬ ((mid + m - lo : Nat) : Int) < (b : Int) := by omega
            have H := rotate_any 22 #[] blk off cap lo m (mid + m - lo) d0 d w0 wr RR.out hs S1.out (by omega) (by omega) (by omega) hsz
            go_wp2_with fail
            refine H.mono ?_
            rintro e w2 ⟨rfl, d1, RT', S2'⟩
            clear H S1
            have RT : Aside (Rot lo m (mid + m - lo) d d1) := RT'
            have S2 : Aside (SWK fT 3 w0 blk off d1 w2) := S2'
            clear RT' S2'
            have PT : Aside (SrtI a lo d1 ∧ SrtI lo mid d1 ∧ SrtI mid (mid + m - lo) d1 ∧ SrtI (mid + m - lo) b d1 ∧ ∀ i j, a ≤ i → i < mid → mid ≤ j → j < b → leT d1[i]! d1[j]!) := CU.out.parts (by omega) (by omega) (by omega) HL0.out HR0.out RT.out
            have hs1 : d1.size = d.size := RT.out.size
            have H := IH a lo mid d1 w2 (by omega) (by omega) (by omega) (by omega) (by omega) PT.out.1 PT.out.2.1 S2.out
            unfold Mg at H
            rw [hs1] at H
            go_wp2_with fail
            refine H.mono ?_
            rintro e w3 ⟨rfl, d2, M2', S3'⟩
            clear H
            have M2 : Aside (SrtI a mid d2 ∧ Mrg a mid d1 d2) := M2'
            have S3 : Aside (SWK fT 3 w0 blk off d2 w3) := S3'
            clear M2' S3' S2
            have P3 : Aside (SrtI mid (mid + m - lo) d2 ∧ SrtI (mid + m - lo) b d2) := ⟨fun i j i1 i2 i3 => by rw [M2.out.2.out _ (.inr i1), M2.out.2.out _ (.inr (by omega))]; exact PT.out.2.2.1 i j i1 i2 i3, fun i j i1 i2 i3 => by rw [M2.out.2.out _ (.inr (by omega)), M2.out.2.out _ (.inr (by omega))]; exact PT.out.2.2.2.1 i j i1 i2 i3⟩
            have hs2 : d2.size = d.size := M2.out.2.size.trans RT.out.size
            have M3 : SrtI mid b d2 := by
              have e2 : mid + m - lo = b := by omega
              have := P3.out.1; rwa [e2] at this
            have X := mrg_both (by omega) (by omega) PT.out.2.2.2.2 M2.out.1 M2.out.2 M3 (Mrg.refl mid b d2)
            have XX : Aside (SrtI a b d2 ∧ Mrg a b d d2) := ⟨X.1, (CU.out.mrg (by omega) (by omega) hb HL0.out HR0.out RT.out).trans X.2⟩
            clear X M3 P3 PT RT M2 CU
            go_wp2_with fail
            go_end0
            exact ⟨rfl, d2, XX.out, S3.out⟩
        · by_cases h5 : mid + m - lo < b
          · skip
            have hf0 : (lo : Int) < (m : Int) := by omega
            have hf1 : (m : Int) < ((mid + m - lo : Nat) : Int) := by omega
            have hf2 : ¬ (a : Int) < (lo : Int) := by omega
            have hf3 : (mid : Int) < ((mid + m - lo : Nat) : Int) := by omega
            have hf4 : ((mid + m - lo : Nat) : Int) < (b : Int) := by omega
            have H := rotate_any 22 #[] blk off cap lo m (mid + m - lo) d0 d w0 wr RR.out hs S1.out (by omega) (by omega) (by omega) hsz
            go_wp2_with fail
            refine H.mono ?_
            rintro e w2 ⟨rfl, d1, RT', S2'⟩
            clear H S1
            have RT : Aside (Rot lo m (mid + m - lo) d d1) := RT'
            have S2 : Aside (SWK fT 3 w0 blk off d1 w2) := S2'
            clear RT' S2'
            have PT : Aside (SrtI a lo d1 ∧ SrtI lo mid d1 ∧ SrtI mid (mid + m - lo) d1 ∧ SrtI (mid + m - lo) b d1 ∧ ∀ i j, a ≤ i → i < mid → mid ≤ j → j < b → leT d1[i]! d1[j]!) := CU.out.parts (by omega) (by omega) (by omega) HL0.out HR0.out RT.out
            have hs1 : d1.size = d.size := RT.out.size
            have M2 : Aside (SrtI a mid d1 ∧ Mrg a mid d1 d1) := by
              refine ⟨?_, Mrg.refl a mid d1⟩
              have e2 : lo = a := by omega
              have := PT.out.2.1; rwa [e2] at this
            obtain ⟨d2, hd2⟩ : ∃ d2, d2 = d1 := ⟨_, rfl⟩
            obtain ⟨w3, hw3⟩ : ∃ w3, w3 = w2 := ⟨_, rfl⟩
            have M2 : Aside (SrtI a mid d2 ∧ Mrg a mid d1 d2) := by rw [hd2]; exact M2
            have S3 : Aside (SWK fT 3 w0 blk off d2 w3) := by rw [hd2, hw3]; exact S2
            rw [← hw3]
            clear hd2 hw3 S2
            have P3 : Aside (SrtI mid (mid + m - lo) d2 ∧ SrtI (mid + m - lo) b d2) := ⟨fun i j i1 i2 i3 => by rw [M2.out.2.out _ (.inr i1), M2.out.2.out _ (.inr (by omega))]; exact PT.out.2.2.1 i j i1 i2 i3, fun i j i1 i2 i3 => by rw [M2.out.2.out _ (.inr (by omega)), M2.out.2.out _ (.inr (by omega))]; exact PT.out.2.2.2.1 i j i1 i2 i3⟩
            have hs2 : d2.size = d.size := M2.out.2.size.trans RT.out.size
            have H := IH mid (mid + m - lo) b d2 w3 (by omega) (by omega) (by omega) (by omega) (by omega) P3.out.1 P3.out.2 S3.out
            unfold Mg at H
            rw [hs2] at H
            go_wp2_with fail
            refine H.mono ?_
            rintro e w' ⟨rfl, d3, M3, S4⟩
            clear H
            have X := mrg_both (by omega) (by omega) PT.out.2.2.2.2 M2.out.1 M2.out.2 M3.1 M3.2
            have XX : Aside (SrtI a b d3 ∧ Mrg a b d d3) := ⟨X.1, (CU.out.mrg (by omega) (by omega) hb HL0.out HR0.out RT.out).trans X.2⟩
            have S5 : Aside (SWK fT 3 w0 blk off d3 w') := S4
            clear X M3 S4 P3 PT RT M2 CU S3
            go_wp2_with fail
            go_end0
            exact ⟨rfl, d3, XX.out, S5.out⟩
          · skip
            have hf0 : (lo : Int) < (m : Int) := by omega
            have hf1 : (m : Int) < ((mid + m - lo : Nat) : Int) := by omega
            have hf2 : ¬ (a : Int) < (lo : Int) := by omega
            have hf3 : (mid : Int) < ((mid + m - lo : Nat) : Int) := by omega
            have hf4 : ¬ ((mid + m - lo : Nat) : Int) < (b : Int) := by omega
            have H := rotate_any 22 #[] blk off cap lo m (mid + m - lo) d0 d w0 wr RR.out hs S1.out (by omega) (by omega) (by omega) hsz
            go_wp2_with fail
            refine H.mono ?_
            rintro e w2 ⟨rfl, d1, RT', S2'⟩
            clear H S1
            have RT : Aside (Rot lo m (mid + m - lo) d d1) := RT'
            have S2 : Aside (SWK fT 3 w0 blk off d1 w2) := S2'
            clear RT' S2'
            have PT : Aside (SrtI a lo d1 ∧ SrtI lo mid d1 ∧ SrtI mid (mid + m - lo) d1 ∧ SrtI (mid + m - lo) b d1 ∧ ∀ i j, a ≤ i → i < mid → mid ≤ j → j < b → leT d1[i]! d1[j]!) := CU.out.parts (by omega) (by omega) (by omega) HL0.out HR0.out RT.out
            have hs1 : d1.size = d.size := RT.out.size
            have M2 : Aside (SrtI a mid d1 ∧ Mrg a mid d1 d1) := by
              refine ⟨?_, Mrg.refl a mid d1⟩
              have e2 : lo = a := by omega
              have := PT.out.2.1; rwa [e2] at this
            obtain ⟨d2, hd2⟩ : ∃ d2, d2 = d1 := ⟨_, rfl⟩
            obtain ⟨w3, hw3⟩ : ∃ w3, w3 = w2 := ⟨_, rfl⟩
            have M2 : Aside (SrtI a mid d2 ∧ Mrg a mid d1 d2) := by rw [hd2]; exact M2
            have S3 : Aside (SWK fT 3 w0 blk off d2 w3) := by rw [hd2, hw3]; exact S2
            rw [← hw3]
            clear hd2 hw3 S2
            have P3 : Aside (SrtI mid (mid + m - lo) d2 ∧ SrtI (mid + m - lo) b d2) := ⟨fun i j i1 i2 i3 => by rw [M2.out.2.out _ (.inr i1), M2.out.2.out _ (.inr (by omega))]; exact PT.out.2.2.1 i j i1 i2 i3, fun i j i1 i2 i3 => by rw [M2.out.2.out _ (.inr (by omega)), M2.out.2.out _ (.inr (by omega))]; exact PT.out.2.2.2.1 i j i1 i2 i3⟩
            have hs2 : d2.size = d.size := M2.out.2.size.trans RT.out.size
            have M3 : SrtI mid b d2 := by
              have e2 : mid + m - lo = b := by omega
              have := P3.out.1; rwa [e2] at this
            have X := mrg_both (by omega) (by omega) PT.out.2.2.2.2 M2.out.1 M2.out.2 M3 (Mrg.refl mid b d2)
            have XX : Aside (SrtI a b d2 ∧ Mrg a b d d2) := ⟨X.1, (CU.out.mrg (by omega) (by omega) hb HL0.out HR0.out RT.out).trans X.2⟩
            clear X M3 P3 PT RT M2 CU
            go_wp2_with fail
            go_end0
            exact ⟨rfl, d2, XX.out, S3.out⟩
      · skip
        by_cases h4 : lo < mid
        · skip
          have hf0 : ¬ (lo : Int) < (m : Int) := by omega
          have hf1 : (a : Int) < (lo : Int) := by omega
          have hf2 : (lo : Int) < (mid : Int) := by omega
          have hf3 : ¬ (mid : Int) < ((mid + m - lo : Nat) : Int) := by omega
          have RT : Aside (Rot lo m (mid + m - lo) d d) := by
            show Rot _ _ _ _ _
            have e2 : lo = m := by omega
            rw [e2, show mid + m - m = mid by omega]; exact Rot.refl1 d (by omega)
          obtain ⟨d1, hd1⟩ : ∃ d1, d1 = d := ⟨_, rfl⟩
          obtain ⟨w2, hw2⟩ : ∃ w2, w2 = wr := ⟨_, rfl⟩
          have S2 : Aside (SWK fT 3 w0 blk off d1 w2) := by rw [hd1, hw2]; exact S1
          have RT : Aside (Rot lo m (mid + m - lo) d d1) := by rw [hd1]; exact RT
          rw [← hw2]
          clear hd1 hw2 S1
          have PT : Aside (SrtI a lo d1 ∧ SrtI lo mid d1 ∧ SrtI mid (mid + m - lo) d1 ∧ SrtI (mid + m - lo) b d1 ∧ ∀ i j, a ≤ i → i < mid → mid ≤ j → j < b → leT d1[i]! d1[j]!) := CU.out.parts (by omega) (by omega) (by omega) HL0.out HR0.out RT.out
          have hs1 : d1.size = d.size := RT.out.size
          have H := IH a lo mid d1 w2 (by omega) (by omega) (by omega) (by omega) (by omega) PT.out.1 PT.out.2.1 S2.out
          unfold Mg at H
          rw [hs1] at H
          go_wp2_with fail
          refine H.mono ?_
          rintro e w3 ⟨rfl, d2, M2', S3'⟩
          clear H
          have M2 : Aside (SrtI a mid d2 ∧ Mrg a mid d1 d2) := M2'
          have S3 : Aside (SWK fT 3 w0 blk off d2 w3) := S3'
          clear M2' S3' S2
          have P3 : Aside (SrtI mid (mid + m - lo) d2 ∧ SrtI (mid + m - lo) b d2) := ⟨fun i j i1 i2 i3 => by rw [M2.out.2.out _ (.inr i1), M2.out.2.out _ (.inr (by omega))]; exact PT.out.2.2.1 i j i1 i2 i3, fun i j i1 i2 i3 => by rw [M2.out.2.out _ (.inr (by omega)), M2.out.2.out _ (.inr (by omega))]; exact PT.out.2.2.2.1 i j i1 i2 i3⟩
          have hs2 : d2.size = d.size := M2.out.2.size.trans RT.out.size
          have M3 : SrtI mid b d2 := by
            have e2 : mid + m - lo = mid := by omega
            have := P3.out.2; rwa [e2] at this
          have X := mrg_both (by omega) (by omega) PT.out.2.2.2.2 M2.out.1 M2.out.2 M3 (Mrg.refl mid b d2)
          have XX : Aside (SrtI a b d2 ∧ Mrg a b d d2) := ⟨X.1, (CU.out.mrg (by omega) (by omega) hb HL0.out HR0.out RT.out).trans X.2⟩
          clear X M3 P3 PT RT M2 CU
          go_wp2_with fail
          go_end0
          exact ⟨rfl, d2, XX.out, S3.out⟩
        · skip
          have hf0 : ¬ (lo : Int) < (m : Int) := by omega
          have hf1 : (a : Int) < (lo : Int) := by omega
          have hf2 : ¬ (lo : Int) < (mid : Int) := by omega
          have hf3 : ¬ (mid : Int) < ((mid + m - lo : Nat) : Int) := by omega
          have RT : Aside (Rot lo m (mid + m - lo) d d) := by
            show Rot _ _ _ _ _
            have e2 : lo = m := by omega
            rw [e2, show mid + m - m = mid by omega]; exact Rot.refl1 d (by omega)
          obtain ⟨d1, hd1⟩ : ∃ d1, d1 = d := ⟨_, rfl⟩
          obtain ⟨w2, hw2⟩ : ∃ w2, w2 = wr := ⟨_, rfl⟩
          have S2 : Aside (SWK fT 3 w0 blk off d1 w2) := by rw [hd1, hw2]; exact S1
          have RT : Aside (Rot lo m (mid + m - lo) d d1) := by rw [hd1]; exact RT
          rw [← hw2]
          clear hd1 hw2 S1
          have PT : Aside (SrtI a lo d1 ∧ SrtI lo mid d1 ∧ SrtI mid (mid + m - lo) d1 ∧ SrtI (mid + m - lo) b d1 ∧ ∀ i j, a ≤ i → i < mid → mid ≤ j → j < b → leT d1[i]! d1[j]!) := CU.out.parts (by omega) (by omega) (by omega) HL0.out HR0.out RT.out
          have hs1 : d1.size = d.size := RT.out.size
          have M2 : Aside (SrtI a mid d1 ∧ Mrg a mid d1 d1) := by
            refine ⟨?_, Mrg.refl a mid d1⟩
            have e2 : lo = mid := by omega
            have := PT.out.1; rwa [e2] at this
          obtain ⟨d2, hd2⟩ : ∃ d2, d2 = d1 := ⟨_, rfl⟩
          obtain ⟨w3, hw3⟩ : ∃ w3, w3 = w2 := ⟨_, rfl⟩
          have M2 : Aside (SrtI a mid d2 ∧ Mrg a mid d1 d2) := by rw [hd2]; exact M2
          have S3 : Aside (SWK fT 3 w0 blk off d2 w3) := by rw [hd2, hw3]; exact S2
          rw [← hw3]
          clear hd2 hw3 S2
          have P3 : Aside (SrtI mid (mid + m - lo) d2 ∧ SrtI (mid + m - lo) b d2) := ⟨fun i j i1 i2 i3 => by rw [M2.out.2.out _ (.inr i1), M2.out.2.out _ (.inr (by omega))]; exact PT.out.2.2.1 i j i1 i2 i3, fun i j i1 i2 i3 => by rw [M2.out.2.out _ (.inr (by omega)), M2.out.2.out _ (.inr (by omega))]; exact PT.out.2.2.2.1 i j i1 i2 i3⟩
          have hs2 : d2.size = d.size := M2.out.2.size.trans RT.out.size
          have M3 : SrtI mid b d2 := by
            have e2 : mid + m - lo = mid := by omega
            have := P3.out.2; rwa [e2] at this
          have X := mrg_both (by omega) (by omega) PT.out.2.2.2.2 M2.out.1 M2.out.2 M3 (Mrg.refl mid b d2)
          have XX : Aside (SrtI a b d2 ∧ Mrg a b d d2) := ⟨X.1, (CU.out.mrg (by omega) (by omega) hb HL0.out HR0.out RT.out).trans X.2⟩
          clear X M3 P3 PT RT M2 CU
          go_wp2_with fail
          go_end0
          exact ⟨rfl, d2, XX.out, S3.out⟩
theorem sym_any (blk off cap : Nat) (d0 : Array It) (w0 : World) (R : RowK fT 3 w0 blk off d0) (hsz : d0.size < 4611686018427387904) : ∀ (f a m b : Nat) (d : Array It) (w : World), b - a ≤ f → a < m → m < b → b ≤ d.size → d0.size = d.size → SrtI a m d → SrtI m b d → SWK fT 3 w0 blk off d w → Mg blk off cap d0 d w0 w a m b
  | 0, a, m, b, d, w, hf, ham, hmb, _, _, _, _, _ => absurd hf (by omega)
  | f + 1, a, m, b, d, w, hf, ham, hmb, hb, hs, hl, hr, S => by
    by_cases h1 : m = a + 1
    · exact symA blk off cap a m b d0 d w0 w R hs S h1 hmb hr hb (by omega)
    · by_cases h2 : b = m + 1
      · exact symB blk off cap a m b d0 d w0 w R hs S (by omega) h2 hl hb (by omega)
      · by_cases h3 : (a + b) / 2 < m
        · exact symC blk off cap a m b d0 d w0 w R hs S (by omega) (by omega) hl hr (fun a' m' b' d' w' h => sym_any blk off cap d0 w0 R hsz f a' m' b' d' w' (by omega)) _ rfl h3 hb (by omega)
        · exact symD blk off cap a m b d0 d w0 w R hs S (by omega) (by omega) hl hr (fun a' m' b' d' w' h => sym_any blk off cap d0 w0 R hsz f a' m' b' d' w' (by omega)) _ rfl h3 hb (by omega)
end Go.Proofs.Yteahponbknljlaa.Kp
