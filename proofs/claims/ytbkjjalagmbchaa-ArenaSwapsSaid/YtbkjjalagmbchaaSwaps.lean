/- The walk of ArenaSwaps. -/
import Derived.Test.YtbkjjalagmbchaaPlaces
import Derived.Test.YtbkjjalagmbchaaFrame
namespace Go.Proofs.Ytbkjjalagmbchaa.Ar
open Go.RowKit
theorem wrap_in {n : Int} (h0 : -9223372036854775808 ≤ n) (h1 : n ≤ 9223372036854775807) : wrap64 n = n := IntWalk.wrap64_in n ⟨h0, h1⟩
theorem inc_in {n : Int} (h0 : 0 ≤ n) (h1 : n < 9223372036854775807) : inc n = n + 1 := wrap_in (by omega) (by omega)
theorem wrap_ne (v : Int) : wrap64 (v + 1) ≠ v := by unfold wrap64; omega
theorem wrap_wrap (v : Int) : wrap64 (wrap64 v) = wrap64 v := by unfold wrap64; omega
/-- Behind m swaps. -/
def SwP (s : St) (v : Int) (m : Nat) : Prop := s.l.length = 4 ∧ s.n = m ∧ nth s.l 2 = (if m = 0 then v else wrap64 (v + 1)) ∧ nth s.l 3 = 0
theorem SwP.start (v : Int) : SwP ((St.fresh 4).poke 2 v) v 0 := ⟨rfl, rfl, rfl, rfl⟩
theorem nth_set {l : List Int} (ix : Int) (k : Nat) {i : Nat} (v : Int) (hx : ix = (k : Int)) (h : k < l.length) : nth (poke l ix v) i = if i = k then v else nth l i := by subst hx; exact nth_poke v h i
theorem SwP.can {s : St} {v : Int} {m : Nat} (h : SwP s v m) : s.can 2 v = decide (m = 0) := by
  obtain ⟨h1, h2, h3, h4⟩ := h
  have e : peek s.l 2 = nth s.l 2 := peek_at (k := 2) (by omega)
  rw [St.can, show isAt s.l 2 = true from isAt_in (k := 2) (by omega), e, h3, Bool.true_and]
  by_cases hm : m = 0
  · rw [if_pos hm]; simp [hm]
  · rw [if_neg hm]; simp only [hm, decide_false, beq_eq_false_iff_ne]; exact wrap_ne v
theorem SwP.step {s : St} {v x : Int} {m : Nat} (h : SwP s v m) (hm : m < 100) (hx : m = 0 → x = wrap64 (v + 1)) : SwP (s.swap 2 v x) v (m + 1) := by
  have hc := h.can
  obtain ⟨h1, h2, h3, h4⟩ := h
  have hn : (s.swap 2 v x).n = ((m + 1 : Nat) : Int) := by rw [swap_n, h2, inc_in (by omega) (by omega)]; omega
  by_cases h0 : m = 0
  · have hl : (s.swap 2 v x).l = poke s.l 2 x := by rw [sw_t (by rw [hc]; simpa using h0)]; rfl
    refine ⟨by rw [hl, length_poke, h1], hn, ?_, ?_⟩
    · rw [hl, nth_set 2 2 x rfl (by omega), if_pos rfl, if_neg (by omega), hx h0]
    · rw [hl, nth_set 2 2 x rfl (by omega), if_neg (by omega), h4]
  · have hl : (s.swap 2 v x).l = s.l := by rw [sw_f (by rw [hc]; simpa using h0)]; rfl
    exact ⟨by rw [hl, h1], hn, by rw [hl, h3, if_neg h0, if_neg (by omega)], by rw [hl, h4]⟩
/-- Behind the swaps, and m adds of sum x. -/
def AdP (s : St) (v : Int) (n m : Nat) (x : Int) : Prop := s.l.length = 4 ∧ s.n = ((n + m : Nat) : Int) ∧ nth s.l 2 = wrap64 (v + 1) ∧ nth s.l 3 = x ∧ -128 * (m : Int) ≤ x ∧ x ≤ 128 * (m : Int)
theorem SwP.adp {s : St} {v : Int} {m : Nat} (h : SwP s v m) (hm : 0 < m) : AdP s v m 0 0 := by
  obtain ⟨h1, h2, h3, h4⟩ := h
  exact ⟨h1, h2, by rw [h3, if_neg (by omega)], h4, by omega, by omega⟩
theorem AdP.step {s : St} {v x z : Int} {n m : Nat} (h : AdP s v n m x) (hn : n < 100) (hm : m < 100) (z0 : -128 ≤ z) (z1 : z ≤ 127) : peek s.l 3 = x ∧ AdP (s.add 3 z) v n (m + 1) (x + z) := by
  obtain ⟨h1, h2, h3, h4, h5, h6⟩ := h
  have e : peek s.l 3 = x := (peek_at (k := 3) (by omega)).trans h4
  have hl : (s.add 3 z).l = poke s.l 3 (x + z) := by
    show poke s.l 3 (wrap64 (peek s.l 3 + z)) = _
    rw [e, wrap_in (by omega) (by omega)]
  have hnn : (s.add 3 z).n = inc s.n := rfl
  refine ⟨e, by rw [hl, length_poke, h1], by rw [hnn, h2, inc_in (by omega) (by omega)]; omega, ?_, ?_, by omega, by omega⟩
  · rw [hl, nth_set 3 3 _ rfl (by omega), if_neg (by omega), h3]
  · rw [hl, nth_set 3 3 _ rfl (by omega), if_pos rfl]
def SwAt (w : World) (p q : Nat) (v : Int) (t : Nat) (won i : Value) (wr : World) : Prop := ∃ m s, m ≤ t ∧ i = .int .i64 (m : Nat) ∧ won = .int .i64 (if m = 0 then 0 else 1) ∧ Ar wr p q s ∧ SwP s v m ∧ Fr [] w wr
def AdAt (w : World) (p q : Nat) (v : Int) (t n : Nat) (sum i : Value) (wr : World) : Prop := ∃ m s x, m ≤ n ∧ i = .int .i64 (m : Nat) ∧ sum = .int .i64 x ∧ Ar wr p q s ∧ AdP s v t m x ∧ Fr [] w wr
theorem ret_b {b : Bool} (h : b = true) : Ending.returned (.bool b) = .returned (.bool true) := by rw [h]
set_option maxHeartbeats 1600000 in
theorem swaps_few (a0 v : Int) (va : Option Addr) (zs : List Int) (cap t : Nat) (w : World) (h0 : 0 ≤ a0) (ht : a0 % 10 + 1 = t) (hzl : zs.length ≤ 40) (hwf : ∀ n ∈ zs, (Lit.int .i8 n).wf = true)
    (hz : zs.length = 0 ∨ ∃ b off, va = some ⟨b, off, none⟩ ∧ b < w.heap.size ∧ ∀ i, i < zs.length → w.cell? ⟨b, off + i, none⟩ = some (.int .i8 (zs.getD i 0))) :
    Calls Try.prog 5 #[.int .u8 a0, .int .i64 v, .slice va zs.length cap] w fun e w' => e = .returned (.bool true) ∧ Fr [] w w' := by
  have HZ := Lib.hid hz
  have HW := Lib.hid hwf
  clear hz hwf
  generalize hn : zs.length = n at *
  have HN := Lib.hid hn
  clear hn
  go_enter Try.func5, Try.ntmps5
  go_wp2_with fail
  refine (known_true _).mono ?_; rintro e w1 ⟨rfl, F1⟩
  go_wp2_with fail
  refine (new_at 4 4 (by decide) (by decide) (by omega) _).mono ?_; rintro e w2 ⟨p, q, rfl, hp, hq, A2, F2⟩
  have G2 := F1.trans F2
  have hp : w.heap.size ≤ p := Nat.le_trans F1.size hp
  have hq : w.heap.size ≤ q := Nat.le_trans F1.size hq
  clear F1 F2
  go_wp2_with fail
  refine (poke_any _ p q _ 2 v A2).mono ?_; rintro e w3 ⟨rfl, A3, F3⟩
  have G3 := G2.own F3 (by simp; omega)
  clear A2 F3 G2
  go_wp2_with fail
  go_loopw [8, 9] (SwAt w p q v t) (fun _ i _ => t - (intOf i).toNat)
  case atStart => exact ⟨0, _, Nat.zero_le _, rfl, rfl, A3, SwP.start v, G3⟩
  case round =>
    obtain ⟨m, s, hm, rfl, rfl, A, hS, G⟩ := hrel
    clear A3 G3
    by_cases hlt : m < t
    · have hC := Lib.hid hS.can
      by_cases hm0 : m = 0
      · subst hm0
        go_wp2_with fail
        refine (swap_of _ p q _ 2 v _ true A hC.out).mono ?_; rintro e w4 ⟨rfl, A4, F4⟩
        have hS4 := hS.step (x := wrap64 (wrap64 (v + 1))) (by omega) (fun _ => wrap_wrap _)
        have G4 := G.own2 F4 hp hq
        clear A F4 G hS hC
        go_wp2_with fail
        go_roundw
        case rel => exact ⟨1, _, by omega, by go_num, by simp, A4, hS4, G4⟩
        case measure => simp [intOf]; omega
      · go_wp2_with fail
        refine (swap_of _ p q _ 2 v _ false A (by rw [hC.out]; simpa using hm0)).mono ?_; rintro e w4 ⟨rfl, A4, F4⟩
        have hS4 := fun x => hS.step (x := x) (by omega) (fun h => absurd h hm0)
        have G4 := G.own2 F4 hp hq
        clear A F4 G hS hC
        go_wp2_with fail
        go_roundw
        case rel => exact ⟨m + 1, _, by omega, by go_num, by simp [hm0], A4, hS4 _, G4⟩
        case measure => simp [intOf]; omega
    · obtain rfl : m = t := by omega
      have hT := hS.adp (by omega)
      have hm0 : ¬ m = 0 := by omega
      clear hS hlt hm
      go_wp2_with fail
      obtain ⟨wo, rfl⟩ : ∃ wo : World, wo = wr := ⟨_, rfl⟩
      go_loopw [10, 11] (AdAt w p q v m n) (fun _ i _ => n - (intOf i).toNat)
      case atStart => exact ⟨0, _, 0, Nat.zero_le _, rfl, rfl, A, hT, G⟩
      case round =>
        obtain ⟨j, s2, x, hj, rfl, rfl, A2, hS2, G2⟩ := hrel
        clear A hT G
        by_cases hlt : j < n
        · have hz := HZ.out
          rcases hz with hz | ⟨b, off, hva, hb, hcell⟩
          · omega
          have hcj : wr.cell? ⟨b, off + j, none⟩ = some (.int .i8 (zs.getD j 0)) := by
            rw [World.cell?_of_block (G2.block b hb (by simp))]; exact hcell j hlt
          clear hcell
          subst hva
          have hzb : -128 ≤ zs.getD j 0 ∧ zs.getD j 0 ≤ 127 := by
            have hw := HW.out (zs.getD j 0) (by rw [List.getD_eq_getElem?_getD, List.getElem?_eq_getElem (by rw [HN.out]; exact hlt)]; exact List.getElem_mem _)
            have := bounds_i8 hw; omega
          obtain ⟨z0, z1⟩ := hzb
          generalize zs.getD j 0 = z at *
          have hA := hS2.step (z := z) (by omega) (by omega) z0 z1
          obtain ⟨x0, x1⟩ := hS2.2.2.2.2
          have HA := Lib.hid hA
          clear hA hS2
          go_wp2_with fail
          refine (add_of _ p q _ 3 z x A2 HA.out.1).mono ?_; rintro e w4 ⟨rfl, A4, F4⟩
          have G4 := G2.own2 F4 hp hq
          have hcj4 : w4.cell? ⟨b, off + j, none⟩ = some (.int .i8 z) := (World.cell?_of_block (F4.block b (Nat.lt_of_lt_of_le hb G2.size) (by simp; omega))).trans hcj
          clear A2 F4 G2 hcj
          go_wp2_with fail
          go_roundw
          case rel => exact ⟨j + 1, _, x + z, by omega, by go_num, by go_num, A4, HA.out.2, G4⟩
          case measure => simp [intOf]; omega
        · obtain rfl : j = n := by omega
          obtain ⟨e1, e2, e3, e4, e5, e6⟩ := hS2
          have P2 := Lib.hid ((peek_at (l := s2.l) (k := 2) (by omega)).trans e3)
          have P3 := Lib.hid ((peek_at (l := s2.l) (k := 3) (by omega)).trans e4)
          have PN := Lib.hid e2
          clear e1 e2 e3 e4 e5 e6 hlt hj
          go_wp2_with fail
          refine (peek_of _ p q _ 2 _ A2 P2.out).mono ?_; rintro e w8 ⟨rfl, rfl⟩
          go_wp2_with fail
          refine (peek_of _ p q _ 3 _ A2 P3.out).mono ?_; rintro e w8 ⟨rfl, rfl⟩
          go_wp2_with fail
          refine (accesses_of _ p q _ _ A2 PN.out).mono ?_; rintro e w8 ⟨rfl, rfl⟩
          go_wp2
          go_ret
          exact ⟨ret_b (by simp), G2⟩
theorem swaps_true (a0 v : Int) (vz : Value) (zs : List Int) (w : World) (h0 : 0 ≤ a0) (hI : Law.Ints w .i8 vz zs) :
    Calls Try.prog 5 #[.int .u8 a0, .int .i64 v, vz] w fun e w' => e = .returned (.bool true) ∧ Fr [] w w' := by
  obtain ⟨va, cap, rfl, hm, hwf, hz⟩ := hI
  unfold maxLen at hm
  obtain ⟨t, ht⟩ := Int.eq_ofNat_of_zero_le (show 0 ≤ a0 % 10 + 1 by omega)
  by_cases hl : zs.length ≤ 40
  · exact swaps_few a0 v va zs cap t w h0 ht hl hwf hz
  · clear hz hwf
    generalize zs.length = n at *
    have hl' : 40 < n := by omega
    clear hl
    go_enter Try.func5, Try.ntmps5
    go_wp2_with fail
    refine (known_true _).mono ?_; rintro e w1 ⟨rfl, F1⟩
    go_wp2
    go_ret
    exact ⟨rfl, F1⟩
end Go.Proofs.Ytbkjjalagmbchaa.Ar
