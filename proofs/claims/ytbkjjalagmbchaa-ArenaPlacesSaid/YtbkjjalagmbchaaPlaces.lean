/- The walk of ArenaPlaces. -/
import Derived.Test.YtbkjjalagmbchaaLaws2
namespace Go.Proofs.Ytbkjjalagmbchaa.Ar
open Go.RowKit
/-- The first j of k words are 7, no access was made. -/
def Sev (s : St) (k j : Nat) : Prop := s.l.length = k ∧ s.n = 0 ∧ s.a = ⟨0, 0, 0, 0, false⟩ ∧ ∀ i, i < j → nth s.l i = 7
theorem Sev.start (k : Nat) : Sev (St.fresh k) k 0 := ⟨len_fresh k, rfl, rfl, fun i h => absurd h (Nat.not_lt_zero i)⟩
theorem nth_poke {l : List Int} {k : Nat} (v : Int) (h : k < l.length) (i : Nat) : nth (poke l k v) i = if i = k then v else nth l i := by
  rw [poke_at v h, nth, nth, List.getD_eq_getElem?_getD, List.getElem?_set]
  by_cases e : k = i
  · subst e; simp [h]
  · rw [if_neg e, if_neg (Ne.symm e), List.getD_eq_getElem?_getD]
theorem Sev.step {s : St} {k j : Nat} (h : Sev s k j) (hj : j < k) : Sev (s.poke j 7) k (j + 1) := by
  obtain ⟨h1, h2, h3, h4⟩ := h
  refine ⟨by simp [St.poke, length_poke, h1], h2, h3, fun i hi => ?_⟩
  show nth (poke s.l j 7) i = 7
  rw [nth_poke 7 (by omega)]
  split
  · rfl
  · exact h4 i (by omega)
/-- Where the loop stands. -/
def LoopAt (w : World) (p q k : Nat) (v : Value) (wr : World) : Prop := ∃ j s, j ≤ k ∧ v = .int .i64 (j : Nat) ∧ Ar wr p q s ∧ Sev s k j ∧ Fr [] w wr
theorem out_at {l : List Int} {k : Nat} {i : Int} (hl : l.length = k) (h : i < 0 ∨ (k : Int) ≤ i) : isAt l i = false := by
  rcases isAt_cases l i with ⟨j, rfl, hj, _⟩ | ⟨_, e⟩
  · omega
  · exact e
/-- All that is done at a place that isn't there. -/
theorem out_all {s : St} {k : Nat} {i : Int} (v : Int) (h : Sev s k k) (ho : isAt s.l i = false) :
    peek (s.store i v).l i = 0 ∧ peek ((s.store i v).load i).l i = 0 ∧ (((s.store i v).load i).add i v).can i 0 = false ∧
    ((((s.store i v).load i).add i v).swap i 0 v).poke i v = ⟨s.l, 4, ⟨3, i, 0, 0, false⟩⟩ := by
  obtain ⟨h1, h2, h3, h4⟩ := h
  have e1 : (s.store i v).l = s.l := poke_no v ho
  have e2 : ((s.store i v).load i).l = s.l := e1
  have e3 : (((s.store i v).load i).add i v).l = s.l := by
    show poke ((s.store i v).load i).l i _ = s.l
    rw [e2, poke_no _ ho]
  have hc : (((s.store i v).load i).add i v).can i 0 = false := by simp [St.can, e3, ho]
  refine ⟨by rw [e1, peek_no ho], by rw [e2, peek_no ho], hc, ?_⟩
  rw [sw_f hc]
  have en : (((s.store i v).load i).add i v).n = inc (inc (inc s.n)) := rfl
  simp only [St.poke, St.note, e3, peek_no ho, poke_no v ho, en, h2]
  rw [show inc (inc (inc (inc 0))) = 4 by decide +kernel]
set_option maxHeartbeats 1600000 in
theorem places_at (a0 a1 v : Int) (k : Nat) (i : Int) (w : World) (h0 : 0 ≤ a0) (h1 : 0 ≤ a1) (hk : a0 % 50 + 1 = k) (hk1 : 1 ≤ k) (hk2 : k ≤ 50)
    (c : Int) (hc : a1 % 4 = c) (hix : ∀ w, (Instr.index 47 (.agg #[.int .i64 (-1), .int .i64 k, .int .i64 (k + 100), .int .i64 (-1099511627776)]) (.int .u8 c)).run Try.prog w = .ok (.int .i64 i) w) (ho : i < 0 ∨ (k : Int) ≤ i) :
    Calls Try.prog 6 #[.int .u8 a0, .int .u8 a1, .int .i64 v] w fun e w' => e = .returned (.bool true) ∧ Fr [] w w' := by
  go_enter Try.func6, Try.ntmps6
  go_wp2_with fail
  refine (known_true _).mono ?_; rintro e w1 ⟨rfl, F1⟩
  go_wp2_with fail
  refine (new_at k k hk1 (by omega) (by omega) _).mono ?_; rintro e w2 ⟨p, q, rfl, hp, hq, A2, F2⟩
  have G2 := F1.trans F2
  have hp : w.heap.size ≤ p := Nat.le_trans F1.size hp
  have hq : w.heap.size ≤ q := Nat.le_trans F1.size hq
  clear F1 F2
  go_wp2_with fail
  go_loopw [9] (LoopAt w p q k) (fun i _ => k - (intOf i).toNat)
  case atStart => exact ⟨0, _, Nat.zero_le _, rfl, A2, Sev.start k, G2⟩
  case round =>
    obtain ⟨j, s, hj, rfl, A, hS, G⟩ := hrel
    clear A2 G2
    by_cases hlt : j < k
    · go_wp2_with fail
      refine (poke_any _ p q _ j 7 A).mono ?_; rintro e w3 ⟨rfl, A3, F3⟩
      have G3 := G.own F3 (by simp; omega)
      go_wp2_with fail
      go_roundw
      case rel => exact ⟨j + 1, _, by omega, by go_num, A3, hS.step hlt, G3⟩
      case measure => simp [intOf]; omega
    · obtain rfl : j = k := by omega
      have hL := hS.1
      have HO := Lib.hid (out_all v hS (out_at hL ho))
      have HS := Lib.hid hS
      clear hS hlt hj hL
      go_wp2_with fail
      refine (store_any _ p q _ i v A).mono ?_; rintro e w3 ⟨rfl, A3, F3⟩
      have G3 := G.own2 F3 hp hq
      clear A F3 G
      go_wp2_with fail
      refine (load_of _ p q _ i 0 A3 HO.out.1).mono ?_; rintro e w4 ⟨rfl, A4, F4⟩
      have G4 := G3.own2 F4 hp hq
      clear A3 F4 G3
      go_wp2_with fail
      refine (add_of _ p q _ i v 0 A4 HO.out.2.1).mono ?_; rintro e w5 ⟨rfl, A5, F5⟩
      have G5 := G4.own2 F5 hp hq
      clear A4 F5 G4
      go_wp2_with fail
      refine (swap_of _ p q _ i 0 v false A5 HO.out.2.2.1).mono ?_; rintro e w6 ⟨rfl, A6, F6⟩
      have G6 := G5.own2 F6 hp hq
      clear A5 F6 G5
      go_wp2_with fail
      refine (poke_any _ p q _ i v A6).mono ?_; rintro e w7 ⟨rfl, A7, F7⟩
      have G7 := G6.own F7 (by simp; omega)
      rw [HO.out.2.2.2] at A7
      clear A6 F7 G6
      have H7 := Lib.hid HS.out.2.2.2
      have HL := Lib.hid HS.out.1
      have HPk := Lib.hid (peek_no (out_at HS.out.1 ho))
      generalize s.l = l at *
      clear HO HS
      go_wp2_with fail
      go_loop [14] (fun i => ∃ m : Nat, m ≤ j ∧ i = .int .i64 m) (fun i => j - (intOf i).toNat)
      case atStart => exact ⟨0, Nat.zero_le _, rfl⟩
      case round =>
        obtain ⟨m, hm, rfl⟩ := hrel
        by_cases hlt : m < j
        · have HP := Lib.hid ((peek_at (by rw [HL.out]; exact hlt)).trans (H7.out m hlt))
          go_wp2_with fail
          refine (peek_of _ p q _ m 7 A7 HP.out).mono ?_; rintro e w8 ⟨rfl, rfl⟩
          go_wp2_with fail
          go_round
          case rel => exact ⟨m + 1, by omega, by go_num⟩
          case measure => simp [intOf]; omega
        · go_wp2_with fail
          refine (peek_of _ p q _ i 0 A7 HPk.out).mono ?_; rintro e w8 ⟨rfl, rfl⟩
          go_wp2_with fail
          refine (accesses_of _ p q _ 4 A7 rfl).mono ?_; rintro e w8 ⟨rfl, rfl⟩
          go_wp2_with fail
          refine (last_of _ p q _ 3 i 0 0 false A7 rfl).mono ?_; rintro e w8 ⟨rfl, F8⟩
          have G8 := G7.trans F8
          go_wp2
          go_ret
          exact ⟨rfl, G8⟩
theorem places_true (a0 a1 v : Int) (w : World) (h0 : 0 ≤ a0) (h1 : 0 ≤ a1) :
    Calls Try.prog 6 #[.int .u8 a0, .int .u8 a1, .int .i64 v] w fun e w' => e = .returned (.bool true) ∧ Fr [] w w' := by
  obtain ⟨k, hk⟩ := Int.eq_ofNat_of_zero_le (show 0 ≤ a0 % 50 + 1 by omega)
  rcases (by omega : a1 % 4 = 0 ∨ a1 % 4 = 1 ∨ a1 % 4 = 2 ∨ a1 % 4 = 3) with h | h | h | h
  · exact places_at a0 a1 v k (-1) w h0 h1 hk (by omega) (by omega) 0 h (fun _ => by kernel_rfl) (by omega)
  · exact places_at a0 a1 v k k w h0 h1 hk (by omega) (by omega) 1 h (fun _ => by kernel_rfl) (by omega)
  · exact places_at a0 a1 v k (k + 100) w h0 h1 hk (by omega) (by omega) 2 h (fun _ => by kernel_rfl) (by omega)
  · exact places_at a0 a1 v k (-1099511627776) w h0 h1 hk (by omega) (by omega) 3 h (fun _ => by kernel_rfl) (by omega)
end Go.Proofs.Ytbkjjalagmbchaa.Ar
