/- The walk of ArenaApart. -/
import Derived.Test.YtbkjjalagmbchaaSwaps
namespace Go.Proofs.Ytbkjjalagmbchaa.Ar
open Go.RowKit
set_option linter.unusedVariables false
/-- The first j words are 1000 and their places. -/
def Th (s : St) (j : Nat) : Prop := s.l.length = 40 ∧ s.n = 0 ∧ ∀ i : Nat, i < j → nth s.l i = 1000 + i
theorem Th.start : Th (St.fresh 40) 0 := ⟨len_fresh 40, rfl, fun i h => absurd h (Nat.not_lt_zero i)⟩
theorem Th.step {s : St} {j : Nat} (h : Th s j) (hj : j < 40) : Th (s.poke j (1000 + j)) (j + 1) := by
  obtain ⟨h1, h2, h4⟩ := h
  refine ⟨by simp [St.poke, length_poke, h1], h2, fun i hi => ?_⟩
  show nth (poke s.l j (1000 + j)) i = 1000 + i
  rw [nth_poke _ (by omega)]
  split
  · rename_i e; rw [e]
  · exact h4 i (by omega)
def ThAt (w : World) (p q : Nat) (v : Value) (wr : World) : Prop := ∃ j s, j ≤ 40 ∧ v = .int .i64 (j : Nat) ∧ Ar wr p q s ∧ Th s j ∧ Fr [] w wr
/-- One access at k was made. -/
def Ap (s : St) (k : Nat) : Prop := s.l.length = 40 ∧ s.n = 1 ∧ s.a.at_ = k ∧ s.a.old = 1000 + k ∧ s.a.new = peek s.l k ∧ ∀ i : Nat, i < 40 → i ≠ k → nth s.l i = 1000 + i
theorem Acc.eta {a : Acc} {k o n : Int} (h1 : a.at_ = k) (h2 : a.old = o) (h3 : a.new = n) : a = ⟨a.kind, k, o, n, a.ok⟩ := by cases a; simp_all
theorem field1 : ∀ (x0 x1 x2 x3 : Int) (b : Bool) (W : World), (Instr.field 37 (.agg #[.int .i64 x0, .int .i64 x1, .int .i64 x2, .int .i64 x3, .bool b]) 1).run Try.prog W = .ok (.int .i64 x1) W := fun _ _ _ _ _ _ => by kernel_rfl
theorem field2 : ∀ (x0 x1 x2 x3 : Int) (b : Bool) (W : World), (Instr.field 37 (.agg #[.int .i64 x0, .int .i64 x1, .int .i64 x2, .int .i64 x3, .bool b]) 2).run Try.prog W = .ok (.int .i64 x2) W := fun _ _ _ _ _ _ => by kernel_rfl
theorem field3 : ∀ (x0 x1 x2 x3 : Int) (b : Bool) (W : World), (Instr.field 37 (.agg #[.int .i64 x0, .int .i64 x1, .int .i64 x2, .int .i64 x3, .bool b]) 3).run Try.prog W = .ok (.int .i64 x3) W := fun _ _ _ _ _ _ => by kernel_rfl
theorem Ap.note {s t : St} {k : Nat} (h : Th s 40) (hk : k < 40) (kind : Int) (ok : Bool) (hn : t.n = 0) (hl : t.l.length = 40) (ho : ∀ i : Nat, i < 40 → i ≠ k → nth t.l i = 1000 + i) : Ap (t.note kind k (peek s.l k) ok) k :=
  ⟨hl, by show inc t.n = 1; rw [hn]; exact inc0, rfl, by show peek s.l k = _; rw [peek_at (by rw [h.1]; exact hk)]; exact h.2.2 k hk, rfl, ho⟩
theorem Ap.poked {s : St} {k : Nat} (h : Th s 40) (hk : k < 40) (v : Int) (kind : Int) (ok : Bool) : Ap ((s.poke k v).note kind k (peek s.l k) ok) k :=
  Ap.note h hk kind ok h.2.1 (by show (poke s.l k v).length = 40; rw [length_poke]; exact h.1) (fun i hi hne => by
    show nth (poke s.l k v) i = _
    rw [nth_poke _ (by rw [h.1]; exact hk), if_neg hne]; exact h.2.2 i hi)
theorem Ap.load {s : St} {k : Nat} (h : Th s 40) (hk : k < 40) : Ap (s.load k) k := Ap.note h hk 1 false h.2.1 h.1 (fun i hi _ => h.2.2 i hi)
theorem Ap.store {s : St} {k : Nat} (h : Th s 40) (hk : k < 40) (v : Int) : Ap (s.store k v) k := Ap.poked h hk v 2 false
theorem Ap.add {s : St} {k : Nat} (h : Th s 40) (hk : k < 40) (v : Int) : Ap (s.add k v) k := Ap.poked h hk _ 4 false
theorem Ap.swap {s : St} {k : Nat} (h : Th s 40) (hk : k < 40) (o v : Int) : Ap (s.swap k o v) k := by
  unfold St.swap
  split
  · exact Ap.poked h hk v 3 true
  · exact Ap.note h hk 3 false h.2.1 h.1 (fun i hi _ => h.2.2 i hi)
set_option maxRecDepth 100000 in
set_option maxHeartbeats 1600000 in
theorem apart_load (a0 a1 a2 v : Int) (k : Nat) (w : World) (h0 : 0 ≤ a0) (h1 : 0 ≤ a1) (h2 : 0 ≤ a2) (hk : a0 % 40 = k) (hlt : k < 40) (hkind : a2 % 4 = 0) :
    Calls Try.prog 4 #[.int .u8 a0, .int .u8 a1, .int .u8 a2, .int .i64 v] w fun e w' => e = .returned (.bool true) ∧ Fr [] w w' := by
  have fd1 := field1
  have fd2 := field2
  have fd3 := field3
  go_enter Try.func4, Try.ntmps4
  go_wp2_with fail
  refine (known_true _).mono ?_; rintro e w1 ⟨rfl, F1⟩
  go_wp2_with fail
  refine (new_at 40 40 (by decide) (by decide) (by omega) _).mono ?_; rintro e w2 ⟨p, q, rfl, hp, hq, A2, F2⟩
  have G2 := F1.trans F2
  have hp : w.heap.size ≤ p := Nat.le_trans F1.size hp
  have hq : w.heap.size ≤ q := Nat.le_trans F1.size hq
  clear F1 F2
  go_wp2_with fail
  go_loopw [10] (ThAt w p q) (fun i _ => 40 - (intOf i).toNat)
  case atStart => exact ⟨0, _, Nat.zero_le _, rfl, A2, Th.start, G2⟩
  case round =>
    obtain ⟨j, s, hj, rfl, A, hS, G⟩ := hrel
    clear A2 G2
    by_cases hjl : j < 40
    · go_wp2_with fail
      refine (poke_any _ p q _ j (1000 + j) A).mono ?_; rintro e w3 ⟨rfl, A3, F3⟩
      have G3 := G.own F3 (by simp; omega)
      go_wp2_with fail
      go_roundw
      case rel => exact ⟨j + 1, _, by omega, by go_num, A3, hS.step hjl, G3⟩
      case measure => simp [intOf]; omega
    · obtain rfl : j = 40 := by omega
      have HS := Lib.hid hS
      clear hS hjl hj
      go_wp2_with fail
      refine (copy_any _ p q _ A).mono ?_; rintro e w3 ⟨p', q', rfl, hp', hq', B3, F3⟩
      have A3 := A.kept F3 (by simp) (by simp)
      have G3 := G.trans F3
      have L := A.lt
      have S1 := G.size
      clear A F3 G
      go_wp2_with fail
      refine (load_any _ p q _ k A3).mono ?_; rintro e w4 ⟨rfl, A4, F4⟩
      have HAp := Ap.load HS.out hlt
      have B4 := B3.kept F4 (by simp; omega) (by simp; omega)
      have G4 := G3.own2 F4 hp hq
      clear A3 B3 F4 G3
      have HA := Lib.hid HAp
      clear HAp
      generalize s.load k = t at *
      go_wp2_with fail
      go_loop [13] (fun i => ∃ m : Nat, m ≤ 40 ∧ i = .int .i64 m) (fun i => 40 - (intOf i).toNat)
      case atStart => exact ⟨0, Nat.zero_le _, rfl⟩
      case round =>
        obtain ⟨m, hm, rfl⟩ := hrel
        by_cases hml : m < 40
        · have HB := Lib.hid ((peek_at (k := m) (by rw [HS.out.1]; exact hml)).trans (HS.out.2.2 m hml))
          by_cases hmk : m = k
          · subst hmk
            go_wp2_with fail
            refine (peek_of _ p' q' _ m _ B4 HB.out).mono ?_; rintro e w8 ⟨rfl, rfl⟩
            go_wp2_with fail
            go_round
            case rel => exact ⟨m + 1, by omega, by go_num⟩
            case measure => simp [intOf]; omega
          · have HC := Lib.hid ((peek_at (k := m) (by rw [HA.out.1]; exact hml)).trans (HA.out.2.2.2.2.2 m hml hmk))
            have hne : (((m : Int) != (k : Int)) : Bool) = true := by simp; omega
            go_wp2_with fail
            refine (peek_of _ p' q' _ m _ B4 HB.out).mono ?_; rintro e w8 ⟨rfl, rfl⟩
            go_wp2_with fail
            refine (peek_of _ p q _ m _ A4 HC.out).mono ?_; rintro e w8 ⟨rfl, rfl⟩
            go_wp2_with fail
            go_round
            case rel => exact ⟨m + 1, by omega, by go_num⟩
            case measure => simp [intOf]; omega
        · have HN := Lib.hid HA.out.2.1
          have HM := Lib.hid HS.out.2.1
          have HV := Lib.hid (Acc.eta HA.out.2.2.1 HA.out.2.2.2.1 HA.out.2.2.2.2.1)
          go_wp2_with fail
          refine (accesses_of _ p q _ 1 A4 HN.out).mono ?_; rintro e w8 ⟨rfl, rfl⟩
          go_wp2_with fail
          refine (accesses_of _ p' q' _ 0 B4 HM.out).mono ?_; rintro e w8 ⟨rfl, rfl⟩
          go_wp2_with fail
          refine (last_of _ p q _ _ _ _ _ _ A4 HV.out).mono ?_; rintro e w5 ⟨rfl, F5⟩
          have A5 := A4.kept F5 (by simp) (by simp)
          have G5 := G4.trans F5
          clear A4 F5 G4 B4
          go_wp2_with fail
          refine (last_of _ p q _ _ _ _ _ _ A5 HV.out).mono ?_; rintro e w6 ⟨rfl, F6⟩
          have A6 := A5.kept F6 (by simp) (by simp)
          have G6 := G5.trans F6
          clear A5 F6 G5
          go_wp2_with fail
          refine (last_of _ p q _ _ _ _ _ _ A6 HV.out).mono ?_; rintro e w7 ⟨rfl, F7⟩
          have A7 := A6.kept F7 (by simp) (by simp)
          have G7 := G6.trans F7
          clear A6 F7 G6
          go_wp2_with fail
          refine (peek_any _ p q _ k A7).mono ?_; rintro e w8 ⟨rfl, rfl⟩
          go_wp2
          go_ret
          exact ⟨ret_b (by simp), G7⟩
set_option maxRecDepth 100000 in
set_option maxHeartbeats 1600000 in
theorem apart_store (a0 a1 a2 v : Int) (k : Nat) (w : World) (h0 : 0 ≤ a0) (h1 : 0 ≤ a1) (h2 : 0 ≤ a2) (hk : a0 % 40 = k) (hlt : k < 40) (hkind : a2 % 4 = 1) :
    Calls Try.prog 4 #[.int .u8 a0, .int .u8 a1, .int .u8 a2, .int .i64 v] w fun e w' => e = .returned (.bool true) ∧ Fr [] w w' := by
  have fd1 := field1
  have fd2 := field2
  have fd3 := field3
  go_enter Try.func4, Try.ntmps4
  go_wp2_with fail
  refine (known_true _).mono ?_; rintro e w1 ⟨rfl, F1⟩
  go_wp2_with fail
  refine (new_at 40 40 (by decide) (by decide) (by omega) _).mono ?_; rintro e w2 ⟨p, q, rfl, hp, hq, A2, F2⟩
  have G2 := F1.trans F2
  have hp : w.heap.size ≤ p := Nat.le_trans F1.size hp
  have hq : w.heap.size ≤ q := Nat.le_trans F1.size hq
  clear F1 F2
  go_wp2_with fail
  go_loopw [10] (ThAt w p q) (fun i _ => 40 - (intOf i).toNat)
  case atStart => exact ⟨0, _, Nat.zero_le _, rfl, A2, Th.start, G2⟩
  case round =>
    obtain ⟨j, s, hj, rfl, A, hS, G⟩ := hrel
    clear A2 G2
    by_cases hjl : j < 40
    · go_wp2_with fail
      refine (poke_any _ p q _ j (1000 + j) A).mono ?_; rintro e w3 ⟨rfl, A3, F3⟩
      have G3 := G.own F3 (by simp; omega)
      go_wp2_with fail
      go_roundw
      case rel => exact ⟨j + 1, _, by omega, by go_num, A3, hS.step hjl, G3⟩
      case measure => simp [intOf]; omega
    · obtain rfl : j = 40 := by omega
      have HS := Lib.hid hS
      clear hS hjl hj
      go_wp2_with fail
      refine (copy_any _ p q _ A).mono ?_; rintro e w3 ⟨p', q', rfl, hp', hq', B3, F3⟩
      have A3 := A.kept F3 (by simp) (by simp)
      have G3 := G.trans F3
      have L := A.lt
      have S1 := G.size
      clear A F3 G
      go_wp2_with fail
      refine (store_any _ p q _ k v A3).mono ?_; rintro e w4 ⟨rfl, A4, F4⟩
      have HAp := Ap.store HS.out hlt v
      have B4 := B3.kept F4 (by simp; omega) (by simp; omega)
      have G4 := G3.own2 F4 hp hq
      clear A3 B3 F4 G3
      have HA := Lib.hid HAp
      clear HAp
      generalize s.store k v = t at *
      go_wp2_with fail
      go_loop [13] (fun i => ∃ m : Nat, m ≤ 40 ∧ i = .int .i64 m) (fun i => 40 - (intOf i).toNat)
      case atStart => exact ⟨0, Nat.zero_le _, rfl⟩
      case round =>
        obtain ⟨m, hm, rfl⟩ := hrel
        by_cases hml : m < 40
        · have HB := Lib.hid ((peek_at (k := m) (by rw [HS.out.1]; exact hml)).trans (HS.out.2.2 m hml))
          by_cases hmk : m = k
          · subst hmk
            go_wp2_with fail
            refine (peek_of _ p' q' _ m _ B4 HB.out).mono ?_; rintro e w8 ⟨rfl, rfl⟩
            go_wp2_with fail
            go_round
            case rel => exact ⟨m + 1, by omega, by go_num⟩
            case measure => simp [intOf]; omega
          · have HC := Lib.hid ((peek_at (k := m) (by rw [HA.out.1]; exact hml)).trans (HA.out.2.2.2.2.2 m hml hmk))
            have hne : (((m : Int) != (k : Int)) : Bool) = true := by simp; omega
            go_wp2_with fail
            refine (peek_of _ p' q' _ m _ B4 HB.out).mono ?_; rintro e w8 ⟨rfl, rfl⟩
            go_wp2_with fail
            refine (peek_of _ p q _ m _ A4 HC.out).mono ?_; rintro e w8 ⟨rfl, rfl⟩
            go_wp2_with fail
            go_round
            case rel => exact ⟨m + 1, by omega, by go_num⟩
            case measure => simp [intOf]; omega
        · have HN := Lib.hid HA.out.2.1
          have HM := Lib.hid HS.out.2.1
          have HV := Lib.hid (Acc.eta HA.out.2.2.1 HA.out.2.2.2.1 HA.out.2.2.2.2.1)
          go_wp2_with fail
          refine (accesses_of _ p q _ 1 A4 HN.out).mono ?_; rintro e w8 ⟨rfl, rfl⟩
          go_wp2_with fail
          refine (accesses_of _ p' q' _ 0 B4 HM.out).mono ?_; rintro e w8 ⟨rfl, rfl⟩
          go_wp2_with fail
          refine (last_of _ p q _ _ _ _ _ _ A4 HV.out).mono ?_; rintro e w5 ⟨rfl, F5⟩
          have A5 := A4.kept F5 (by simp) (by simp)
          have G5 := G4.trans F5
          clear A4 F5 G4 B4
          go_wp2_with fail
          refine (last_of _ p q _ _ _ _ _ _ A5 HV.out).mono ?_; rintro e w6 ⟨rfl, F6⟩
          have A6 := A5.kept F6 (by simp) (by simp)
          have G6 := G5.trans F6
          clear A5 F6 G5
          go_wp2_with fail
          refine (last_of _ p q _ _ _ _ _ _ A6 HV.out).mono ?_; rintro e w7 ⟨rfl, F7⟩
          have A7 := A6.kept F7 (by simp) (by simp)
          have G7 := G6.trans F7
          clear A6 F7 G6
          go_wp2_with fail
          refine (peek_any _ p q _ k A7).mono ?_; rintro e w8 ⟨rfl, rfl⟩
          go_wp2
          go_ret
          exact ⟨ret_b (by simp), G7⟩
set_option maxRecDepth 100000 in
set_option maxHeartbeats 1600000 in
theorem apart_swap (a0 a1 a2 v : Int) (k : Nat) (w : World) (h0 : 0 ≤ a0) (h1 : 0 ≤ a1) (h2 : 0 ≤ a2) (hk : a0 % 40 = k) (hlt : k < 40) (hkind : a2 % 4 = 2) :
    Calls Try.prog 4 #[.int .u8 a0, .int .u8 a1, .int .u8 a2, .int .i64 v] w fun e w' => e = .returned (.bool true) ∧ Fr [] w w' := by
  have fd1 := field1
  have fd2 := field2
  have fd3 := field3
  go_enter Try.func4, Try.ntmps4
  go_wp2_with fail
  refine (known_true _).mono ?_; rintro e w1 ⟨rfl, F1⟩
  go_wp2_with fail
  refine (new_at 40 40 (by decide) (by decide) (by omega) _).mono ?_; rintro e w2 ⟨p, q, rfl, hp, hq, A2, F2⟩
  have G2 := F1.trans F2
  have hp : w.heap.size ≤ p := Nat.le_trans F1.size hp
  have hq : w.heap.size ≤ q := Nat.le_trans F1.size hq
  clear F1 F2
  go_wp2_with fail
  go_loopw [10] (ThAt w p q) (fun i _ => 40 - (intOf i).toNat)
  case atStart => exact ⟨0, _, Nat.zero_le _, rfl, A2, Th.start, G2⟩
  case round =>
    obtain ⟨j, s, hj, rfl, A, hS, G⟩ := hrel
    clear A2 G2
    by_cases hjl : j < 40
    · go_wp2_with fail
      refine (poke_any _ p q _ j (1000 + j) A).mono ?_; rintro e w3 ⟨rfl, A3, F3⟩
      have G3 := G.own F3 (by simp; omega)
      go_wp2_with fail
      go_roundw
      case rel => exact ⟨j + 1, _, by omega, by go_num, A3, hS.step hjl, G3⟩
      case measure => simp [intOf]; omega
    · obtain rfl : j = 40 := by omega
      have HS := Lib.hid hS
      clear hS hjl hj
      go_wp2_with fail
      refine (copy_any _ p q _ A).mono ?_; rintro e w3 ⟨p', q', rfl, hp', hq', B3, F3⟩
      have A3 := A.kept F3 (by simp) (by simp)
      have G3 := G.trans F3
      have L := A.lt
      have S1 := G.size
      clear A F3 G
      go_wp2_with fail
      refine (swap_any _ p q _ k (1000 + a1 % 40) v A3).mono ?_; rintro e w4 ⟨rfl, A4, F4⟩
      have HAp := Ap.swap HS.out hlt (1000 + a1 % 40) v
      have B4 := B3.kept F4 (by simp; omega) (by simp; omega)
      have G4 := G3.own2 F4 hp hq
      clear A3 B3 F4 G3
      have HA := Lib.hid HAp
      clear HAp
      generalize s.swap k (1000 + a1 % 40) v = t at *
      go_wp2_with fail
      go_loop [13] (fun i => ∃ m : Nat, m ≤ 40 ∧ i = .int .i64 m) (fun i => 40 - (intOf i).toNat)
      case atStart => exact ⟨0, Nat.zero_le _, rfl⟩
      case round =>
        obtain ⟨m, hm, rfl⟩ := hrel
        by_cases hml : m < 40
        · have HB := Lib.hid ((peek_at (k := m) (by rw [HS.out.1]; exact hml)).trans (HS.out.2.2 m hml))
          by_cases hmk : m = k
          · subst hmk
            go_wp2_with fail
            refine (peek_of _ p' q' _ m _ B4 HB.out).mono ?_; rintro e w8 ⟨rfl, rfl⟩
            go_wp2_with fail
            go_round
            case rel => exact ⟨m + 1, by omega, by go_num⟩
            case measure => simp [intOf]; omega
          · have HC := Lib.hid ((peek_at (k := m) (by rw [HA.out.1]; exact hml)).trans (HA.out.2.2.2.2.2 m hml hmk))
            have hne : (((m : Int) != (k : Int)) : Bool) = true := by simp; omega
            go_wp2_with fail
            refine (peek_of _ p' q' _ m _ B4 HB.out).mono ?_; rintro e w8 ⟨rfl, rfl⟩
            go_wp2_with fail
            refine (peek_of _ p q _ m _ A4 HC.out).mono ?_; rintro e w8 ⟨rfl, rfl⟩
            go_wp2_with fail
            go_round
            case rel => exact ⟨m + 1, by omega, by go_num⟩
            case measure => simp [intOf]; omega
        · have HN := Lib.hid HA.out.2.1
          have HM := Lib.hid HS.out.2.1
          have HV := Lib.hid (Acc.eta HA.out.2.2.1 HA.out.2.2.2.1 HA.out.2.2.2.2.1)
          go_wp2_with fail
          refine (accesses_of _ p q _ 1 A4 HN.out).mono ?_; rintro e w8 ⟨rfl, rfl⟩
          go_wp2_with fail
          refine (accesses_of _ p' q' _ 0 B4 HM.out).mono ?_; rintro e w8 ⟨rfl, rfl⟩
          go_wp2_with fail
          refine (last_of _ p q _ _ _ _ _ _ A4 HV.out).mono ?_; rintro e w5 ⟨rfl, F5⟩
          have A5 := A4.kept F5 (by simp) (by simp)
          have G5 := G4.trans F5
          clear A4 F5 G4 B4
          go_wp2_with fail
          refine (last_of _ p q _ _ _ _ _ _ A5 HV.out).mono ?_; rintro e w6 ⟨rfl, F6⟩
          have A6 := A5.kept F6 (by simp) (by simp)
          have G6 := G5.trans F6
          clear A5 F6 G5
          go_wp2_with fail
          refine (last_of _ p q _ _ _ _ _ _ A6 HV.out).mono ?_; rintro e w7 ⟨rfl, F7⟩
          have A7 := A6.kept F7 (by simp) (by simp)
          have G7 := G6.trans F7
          clear A6 F7 G6
          go_wp2_with fail
          refine (peek_any _ p q _ k A7).mono ?_; rintro e w8 ⟨rfl, rfl⟩
          go_wp2
          go_ret
          exact ⟨ret_b (by simp), G7⟩
set_option maxRecDepth 100000 in
set_option maxHeartbeats 1600000 in
theorem apart_add (a0 a1 a2 v : Int) (k : Nat) (w : World) (h0 : 0 ≤ a0) (h1 : 0 ≤ a1) (h2 : 0 ≤ a2) (hk : a0 % 40 = k) (hlt : k < 40) (hkind : a2 % 4 = 3) :
    Calls Try.prog 4 #[.int .u8 a0, .int .u8 a1, .int .u8 a2, .int .i64 v] w fun e w' => e = .returned (.bool true) ∧ Fr [] w w' := by
  have fd1 := field1
  have fd2 := field2
  have fd3 := field3
  go_enter Try.func4, Try.ntmps4
  go_wp2_with fail
  refine (known_true _).mono ?_; rintro e w1 ⟨rfl, F1⟩
  go_wp2_with fail
  refine (new_at 40 40 (by decide) (by decide) (by omega) _).mono ?_; rintro e w2 ⟨p, q, rfl, hp, hq, A2, F2⟩
  have G2 := F1.trans F2
  have hp : w.heap.size ≤ p := Nat.le_trans F1.size hp
  have hq : w.heap.size ≤ q := Nat.le_trans F1.size hq
  clear F1 F2
  go_wp2_with fail
  go_loopw [10] (ThAt w p q) (fun i _ => 40 - (intOf i).toNat)
  case atStart => exact ⟨0, _, Nat.zero_le _, rfl, A2, Th.start, G2⟩
  case round =>
    obtain ⟨j, s, hj, rfl, A, hS, G⟩ := hrel
    clear A2 G2
    by_cases hjl : j < 40
    · go_wp2_with fail
      refine (poke_any _ p q _ j (1000 + j) A).mono ?_; rintro e w3 ⟨rfl, A3, F3⟩
      have G3 := G.own F3 (by simp; omega)
      go_wp2_with fail
      go_roundw
      case rel => exact ⟨j + 1, _, by omega, by go_num, A3, hS.step hjl, G3⟩
      case measure => simp [intOf]; omega
    · obtain rfl : j = 40 := by omega
      have HS := Lib.hid hS
      clear hS hjl hj
      go_wp2_with fail
      refine (copy_any _ p q _ A).mono ?_; rintro e w3 ⟨p', q', rfl, hp', hq', B3, F3⟩
      have A3 := A.kept F3 (by simp) (by simp)
      have G3 := G.trans F3
      have L := A.lt
      have S1 := G.size
      clear A F3 G
      go_wp2_with fail
      refine (add_any _ p q _ k v A3).mono ?_; rintro e w4 ⟨rfl, A4, F4⟩
      have HAp := Ap.add HS.out hlt v
      have B4 := B3.kept F4 (by simp; omega) (by simp; omega)
      have G4 := G3.own2 F4 hp hq
      clear A3 B3 F4 G3
      have HA := Lib.hid HAp
      clear HAp
      generalize s.add k v = t at *
      go_wp2_with fail
      go_loop [13] (fun i => ∃ m : Nat, m ≤ 40 ∧ i = .int .i64 m) (fun i => 40 - (intOf i).toNat)
      case atStart => exact ⟨0, Nat.zero_le _, rfl⟩
      case round =>
        obtain ⟨m, hm, rfl⟩ := hrel
        by_cases hml : m < 40
        · have HB := Lib.hid ((peek_at (k := m) (by rw [HS.out.1]; exact hml)).trans (HS.out.2.2 m hml))
          by_cases hmk : m = k
          · subst hmk
            go_wp2_with fail
            refine (peek_of _ p' q' _ m _ B4 HB.out).mono ?_; rintro e w8 ⟨rfl, rfl⟩
            go_wp2_with fail
            go_round
            case rel => exact ⟨m + 1, by omega, by go_num⟩
            case measure => simp [intOf]; omega
          · have HC := Lib.hid ((peek_at (k := m) (by rw [HA.out.1]; exact hml)).trans (HA.out.2.2.2.2.2 m hml hmk))
            have hne : (((m : Int) != (k : Int)) : Bool) = true := by simp; omega
            go_wp2_with fail
            refine (peek_of _ p' q' _ m _ B4 HB.out).mono ?_; rintro e w8 ⟨rfl, rfl⟩
            go_wp2_with fail
            refine (peek_of _ p q _ m _ A4 HC.out).mono ?_; rintro e w8 ⟨rfl, rfl⟩
            go_wp2_with fail
            go_round
            case rel => exact ⟨m + 1, by omega, by go_num⟩
            case measure => simp [intOf]; omega
        · have HN := Lib.hid HA.out.2.1
          have HM := Lib.hid HS.out.2.1
          have HV := Lib.hid (Acc.eta HA.out.2.2.1 HA.out.2.2.2.1 HA.out.2.2.2.2.1)
          go_wp2_with fail
          refine (accesses_of _ p q _ 1 A4 HN.out).mono ?_; rintro e w8 ⟨rfl, rfl⟩
          go_wp2_with fail
          refine (accesses_of _ p' q' _ 0 B4 HM.out).mono ?_; rintro e w8 ⟨rfl, rfl⟩
          go_wp2_with fail
          refine (last_of _ p q _ _ _ _ _ _ A4 HV.out).mono ?_; rintro e w5 ⟨rfl, F5⟩
          have A5 := A4.kept F5 (by simp) (by simp)
          have G5 := G4.trans F5
          clear A4 F5 G4 B4
          go_wp2_with fail
          refine (last_of _ p q _ _ _ _ _ _ A5 HV.out).mono ?_; rintro e w6 ⟨rfl, F6⟩
          have A6 := A5.kept F6 (by simp) (by simp)
          have G6 := G5.trans F6
          clear A5 F6 G5
          go_wp2_with fail
          refine (last_of _ p q _ _ _ _ _ _ A6 HV.out).mono ?_; rintro e w7 ⟨rfl, F7⟩
          have A7 := A6.kept F7 (by simp) (by simp)
          have G7 := G6.trans F7
          clear A6 F7 G6
          go_wp2_with fail
          refine (peek_any _ p q _ k A7).mono ?_; rintro e w8 ⟨rfl, rfl⟩
          go_wp2
          go_ret
          exact ⟨ret_b (by simp), G7⟩
theorem apart_true (a0 a1 a2 v : Int) (w : World) (h0 : 0 ≤ a0) (h1 : 0 ≤ a1) (h2 : 0 ≤ a2) :
    Calls Try.prog 4 #[.int .u8 a0, .int .u8 a1, .int .u8 a2, .int .i64 v] w fun e w' => e = .returned (.bool true) ∧ Fr [] w w' := by
  obtain ⟨k, hk⟩ := Int.eq_ofNat_of_zero_le (show 0 ≤ a0 % 40 by omega)
  rcases (by omega : a2 % 4 = 0 ∨ a2 % 4 = 1 ∨ a2 % 4 = 2 ∨ a2 % 4 = 3) with h | h | h | h
  · exact apart_load a0 a1 a2 v k w h0 h1 h2 hk (by omega) h
  · exact apart_store a0 a1 a2 v k w h0 h1 h2 hk (by omega) h
  · exact apart_swap a0 a1 a2 v k w h0 h1 h2 hk (by omega) h
  · exact apart_add a0 a1 a2 v k w h0 h1 h2 hk (by omega) h
end Go.Proofs.Ytbkjjalagmbchaa.Ar
