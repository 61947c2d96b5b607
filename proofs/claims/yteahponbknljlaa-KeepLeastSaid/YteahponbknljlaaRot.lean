/- slices' stable sort at items: its exchanges. -/
import Derived.Test.YteahponbknljlaaCmp2
import Derived.Test.YteahponbknljlaaIter8
import Derived.Shelf.SlSortCmp.WholeK
namespace Go.Proofs.Yteahponbknljlaa.Kp
open Go.RowKit Go.Shelf Go.Lib Go.Sort Go.Proofs.Yteahponbknljlaa.Mx
set_option linter.unusedVariables false
set_option linter.unusedSimpArgs false
theorem it_at {w : World} {blk off : Nat} {d : Array It} (h : HoldsK fT 3 w blk off d) {i : Nat} (hi : i < d.size) {x : It} (hx : d[i]! = x) :
    w.cell? ⟨blk, off + i * 3, none⟩ = some (.int .i64 x.k) ∧ w.cell? ⟨blk, off + i * 3 + 1, none⟩ = some (.int .i64 x.v) ∧ w.cell? ⟨blk, off + i * 3 + 2, none⟩ = some (.int .i64 x.d) ∧
      w.frozen? ⟨blk, off + i * 3, none⟩ = false ∧ w.frozen? ⟨blk, off + i * 3 + 1, none⟩ = false ∧ w.frozen? ⟨blk, off + i * 3 + 2, none⟩ = false := by
  have a0 := HoldsK.cell h (c := 0) hi (by omega)
  have a1 := HoldsK.cell h (c := 1) hi (by omega)
  have a2 := HoldsK.cell h (c := 2) hi (by omega)
  rw [hx] at a0 a1 a2
  exact ⟨a0.1, a1.1, a2.1, a0.2, a1.2, a2.2⟩
theorem drew_setCell (w : World) (a : Addr) (v : Value) : w.drew.setCell a v = (w.setCell a v).drew := rfl
theorem add11 (n : Nat) : n + 1 + 1 = n + 2 := rfl
theorem cmpLays (blk off size : Nat) (w : World) : CmpLays Try.prog 22 #[] fT 3 cfT blk off size w :=
  fun m os dk _ x y => (compare_any x y _).mono fun e w' h => ⟨h.1, h.2.grow⟩
theorem cmp_grown (x y : It) (w : World) (n : Nat) (os : Array Obj) :
    Calls Try.prog 22 #[.agg #[.int .i64 x.k, .int .i64 x.v, .int .i64 x.d], .agg #[.int .i64 y.k, .int .i64 y.v, .int .i64 y.d]] (grow (w.drewN n) os) fun e w' => e = .returned (.int .i64 (cfT x y)) ∧ ∃ q os', w' = grow ((grow (w.drewN n) os).drewN q) os' :=
  (compare_any x y _).mono fun e w' h => ⟨h.1, h.2.grow⟩
set_option maxHeartbeats 1600000 in
set_option maxRecDepth 1000000 in
theorem swapRange_any (g : Nat) (cb : Array Value) (blk off cap a b n : Nat) (d0 d : Array It) (w0 w : World) (R : RowK fT 3 w0 blk off d0) (hs : d0.size = d.size) (S : SWK fT 3 w0 blk off d w) (hab : a + n ≤ b) (hb : b + n ≤ d.size) (hsz : d.size < 4611686018427387904) :
    Calls Try.prog 77 #[.slice (some ⟨blk, off, none⟩) d.size cap, .int .i64 a, .int .i64 b, .int .i64 n, .func (.func g) #[] cb] w fun e w' =>
      e = .returned (.tuple #[]) ∧ ∃ d', Swr a b n d d' ∧ SWK fT 3 w0 blk off d' w' := by
  have S0 : Aside (SWK fT 3 w0 blk off d w) := S
  have RR : Aside (RowK fT 3 w0 blk off d0) := R
  clear S R
  go_enter Try.func77, Try.ntmps77
  go_wp2_with fail
  go_loopg [10] n (fun kx s8 wr => ∃ (i : Nat) (dk : Array It), s8 = .int .i64 i ∧ i ≤ n ∧ n - i ≤ kx ∧ Aside (SWK fT 3 w0 blk off dk wr) ∧ Aside (Swr a b i d dk))
  case atStart => exact ⟨0, d, rfl, by omega, by omega, S0, Swr.zero a b d⟩
  case round =>
    clear S0
    obtain ⟨i, dk, rfl, hi, hkx, S1, HW⟩ := hrel
    by_cases hlt : i < n
    · have hltz : (i : Int) < (n : Int) := by omega
      have hds : dk.size = d.size := HW.out.size
      have W2 : Aside (Swr a b (i + 1) d (swp dk (a + i) (b + i))) := HW.out.more (by omega) (by omega)
      go_wp2_with fail
      have eA : ((a : Int) + (i : Int)).toNat = (a + i) := by omega
      have pA : (0 : Int) ≤ (a : Int) + (i : Int) := by omega
      have bA : (a : Int) + (i : Int) < (d.size : Int) := by omega
      have rA : IntKind.i64.wrap ((a : Int) + (i : Int)) = (a : Int) + (i : Int) := by rw [IntKind.wrap_i64]; omega
      have eB : ((b : Int) + (i : Int)).toNat = (b + i) := by omega
      have pB : (0 : Int) ≤ (b : Int) + (i : Int) := by omega
      have bB : (b : Int) + (i : Int) < (d.size : Int) := by omega
      have rB : IntKind.i64.wrap ((b : Int) + (i : Int)) = (b : Int) + (i : Int) := by rw [IntKind.wrap_i64]; omega
      have S2 : Aside (SWK fT 3 w0 blk off (swp dk (a + i) (b + i)) ((wr.drew.setCells blk (off + (a + i) * 3) (fT dk[(b + i)]!)).setCells blk (off + (b + i) * 3) (fT dk[(a + i)]!))) := S1.out.swapped RR.out (a + i) (b + i) (by omega) (by omega)
      have SH := S1.out.holds RR.out.hblk RR.out.hH (by omega)
      obtain ⟨vx, hvx⟩ : ∃ v, dk[(a + i)]! = v := ⟨_, rfl⟩
      obtain ⟨vy, hvy⟩ : ∃ v, dk[(b + i)]! = v := ⟨_, rfl⟩
      obtain ⟨x0, x1, x2, fx0, fx1, fx2⟩ := it_at SH (i := (a + i)) (by omega) hvx
      obtain ⟨y0, y1, y2, fy0, fy1, fy2⟩ := it_at SH (i := (b + i)) (by omega) hvy
      clear SH
      rw [hvx, hvy] at S2
      simp only [fT, World.setCells, drew_setCell, add11] at S2
      clear hvx hvy
      have mixed : Try.prog.follows .mixedOrders = true := by kernel_rfl
      clear S1
      go_wp2_with fail
      go_big_region_o
      clear x0 x1 x2 fx0 fx1 fx2 y0 y1 y2 fy0 fy1 fy2 mixed
      generalize (((((((wr.setCell ⟨blk, off + (a + i) * 3, none⟩ (.int .i64 vy.k)).setCell ⟨blk, off + (a + i) * 3 + 1, none⟩ (.int .i64 vy.v)).setCell ⟨blk, off + (a + i) * 3 + 2, none⟩ (.int .i64 vy.d)).setCell ⟨blk, off + (b + i) * 3, none⟩ (.int .i64 vx.k)).setCell ⟨blk, off + (b + i) * 3 + 1, none⟩ (.int .i64 vx.v)).setCell ⟨blk, off + (b + i) * 3 + 2, none⟩ (.int .i64 vx.d)).drew) = w2 at S2 ⊢
      go_wp2_with fail
      go_roundg (n - (i + 1))
      case measure => omega
      case rel => exact ⟨i + 1, _, by simp, by omega, by omega, S2, W2⟩
    · have hltz : ¬ (i : Int) < (n : Int) := by omega
      go_wp2_with fail
      go_end0
      obtain rfl : i = n := by omega
      exact ⟨rfl, dk, HW.out, S1.out⟩
set_option maxHeartbeats 1600000 in
set_option maxRecDepth 1000000 in
theorem rotate_any (g : Nat) (cb : Array Value) (blk off cap a m b : Nat) (d0 d : Array It) (w0 w : World) (R : RowK fT 3 w0 blk off d0) (hs : d0.size = d.size) (S : SWK fT 3 w0 blk off d w) (ham : a < m) (hmb : m < b) (hb : b ≤ d.size) (hsz : d.size < 4611686018427387904) :
    Calls Try.prog 64 #[.slice (some ⟨blk, off, none⟩) d.size cap, .int .i64 a, .int .i64 m, .int .i64 b, .func (.func g) #[] cb] w fun e w' =>
      e = .returned (.tuple #[]) ∧ ∃ d', Rot a m b d d' ∧ SWK fT 3 w0 blk off d' w' := by
  have S0 : Aside (SWK fT 3 w0 blk off d w) := S
  have RR : Aside (RowK fT 3 w0 blk off d0) := R
  clear S R
  go_enter Try.func64, Try.ntmps64
  go_wp2_with fail
  go_loopg [10, 11] (b - a) (fun kx s10 s11 wr => ∃ (i j : Nat) (dk : Array It), s10 = .int .i64 i ∧ s11 = .int .i64 j ∧ 0 < i ∧ 0 < j ∧ i ≤ m ∧ a + i ≤ m ∧ m + j ≤ b ∧ i + j ≤ kx + 1 ∧ Aside (SWK fT 3 w0 blk off dk wr) ∧ Aside (RotTo a m b i j d dk))
  case atStart => exact ⟨m - a, b - m, d, by go_num, by go_num, by omega, by omega, by omega, by omega, by omega, by omega, S0, RotTo.start d (by omega) (by omega)⟩
  case round =>
    clear S0
    obtain ⟨i, j, dk, rfl, rfl, hi, hj, him, ham2, hjb, hkx, S1, HW⟩ := hrel
    have hds : dk.size = d.size := HW.out.size
    by_cases heq : i = j
    · subst heq
      go_wp2_with fail
      have H := swapRange_any g cb blk off cap (m - i) m i d0 dk w0 wr RR.out (by omega) S1.out (by omega) (by omega) (by omega)
      rw [hds, show ((m - i : Nat) : Int) = (m : Int) - (i : Int) by omega] at H
      go_wp2_with (go_at_call 77; refine H.mono ?_; rintro e w' ⟨rfl, d', h1, h2⟩)
      go_end0
      exact ⟨rfl, d', HW.out.eq him h1, h2⟩
    · have hne : ((i : Int) != (j : Int)) = true := by simp; omega
      have hneq : ¬ (i : Int) = (j : Int) := by omega
      by_cases hlt : j < i
      · have hltz : (j : Int) < (i : Int) := by omega
        have H := swapRange_any g cb blk off cap (m - i) m j d0 dk w0 wr RR.out (by omega) S1.out (by omega) (by omega) (by omega)
        rw [hds, show ((m - i : Nat) : Int) = (m : Int) - (i : Int) by omega] at H
        go_wp2_with (go_at_call 77; refine H.mono ?_; rintro e w' ⟨rfl, d', h1, h2⟩)
        clear H
        have W2 : Aside (RotTo a m b (i - j) j d d') := HW.out.gt hlt him h1
        have S2 : Aside (SWK fT 3 w0 blk off d' w') := h2
        clear h1 h2
        go_wp2_with fail
        go_roundg (i - j + j - 1)
        case measure => omega
        case rel => exact ⟨i - j, j, d', by go_num, rfl, by omega, by omega, by omega, by omega, by omega, by omega, S2, W2⟩
      · have hltz : ¬ (j : Int) < (i : Int) := by omega
        have H := swapRange_any g cb blk off cap (m - i) (m + j - i) i d0 dk w0 wr RR.out (by omega) S1.out (by omega) (by omega) (by omega)
        rw [hds, show ((m - i : Nat) : Int) = (m : Int) - (i : Int) by omega, show ((m + j - i : Nat) : Int) = (m : Int) + (j : Int) - (i : Int) by omega] at H
        go_wp2_with (go_at_call 77; refine H.mono ?_; rintro e w' ⟨rfl, d', h1, h2⟩)
        clear H
        have W2 : Aside (RotTo a m b i (j - i) d d') := HW.out.lt (by omega) him h1
        have S2 : Aside (SWK fT 3 w0 blk off d' w') := h2
        clear h1 h2
        go_wp2_with fail
        go_roundg (i + (j - i) - 1)
        case measure => omega
        case rel => exact ⟨i, j - i, d', rfl, by go_num, by omega, by omega, by omega, by omega, by omega, by omega, S2, W2⟩
end Go.Proofs.Yteahponbknljlaa.Kp
