/- The walks of the statements of layer 2. -/
import Derived.Test.YtbkjjalagmbchaaKnown2
import Derived.Test.YtbkjjalagmbchaaRar
import Derived.Deep.RegionHeld3
namespace Go.Proofs.Ytbkjjalagmbchaa.Ar
open Go.RowKit
theorem len_fresh (n : Nat) : (St.fresh n).l.length = n := by simp [St.fresh]
set_option maxHeartbeats 800000 in
theorem sizes_at (n : Nat) (i : Int) (lo : 1 ≤ n) (hi : n ≤ 20000) (hn : (i < 1 ∧ n = 1) ∨ (1 ≤ i ∧ i ≤ 20000 ∧ i = n) ∨ (20000 < i ∧ n = 20000)) (w : World) :
    Calls Try.prog 7 #[.int .i64 i] w fun e w' => e = .returned (.bool true) ∧ Fr [] w w' := by
  have HN := fun W => new_at n i lo hi hn W
  rcases hn with ⟨h1, rfl⟩ | ⟨h1, h2, rfl⟩ | ⟨h1, rfl⟩
  all_goals
    have H := Lib.hid HN
    clear HN
    go_enter Try.func7, Try.ntmps7
    go_wp2_with fail
    refine (known_true _).mono ?_; rintro e w1 ⟨rfl, F1⟩
    go_wp2_with fail
    refine (H.out _).mono ?_; rintro e w2 ⟨p, q, rfl, hp, hq, A2, F2⟩
    have G2 := F1.trans F2
    clear F1 F2 hp hq
    go_wp2_with fail
    refine (len_of _ p q _ _ A2 (len_fresh _)).mono ?_; rintro e w10 ⟨rfl, rfl⟩
    go_wp2_with fail
    all_goals
      refine (accesses_of _ p q _ 0 A2 rfl).mono ?_; rintro e w10 ⟨rfl, rfl⟩
      go_wp2_with fail
      refine (last_of _ p q _ 0 0 0 0 false A2 rfl).mono ?_; rintro e w3 ⟨rfl, F3⟩
      have A3 := A2.kept F3 (by simp) (by simp)
      have G3 := G2.trans F3
      clear F3 G2 A2
      go_wp2_with fail
      refine (copy_any _ p q _ A3).mono ?_; rintro e w4 ⟨p', q', rfl, hp, hq, A4, F4⟩
      have A4' := A3.kept F4 (by simp) (by simp)
      have G4 := G3.trans F4
      clear F4 G3 A3
      go_wp2_with fail
      refine (len_of _ p' q' _ _ A4 (len_fresh _)).mono ?_; rintro e w10 ⟨rfl, rfl⟩
      go_wp2_with fail
      refine (len_of _ p q _ _ A4' (len_fresh _)).mono ?_; rintro e w10 ⟨rfl, rfl⟩
      go_wp2
      go_ret
      exact ⟨by simp, G4⟩
theorem isAt_of {l : List Int} {k : Nat} (h : k < l.length) : isAt l k = true := isAt_in h
theorem peek_poke {l : List Int} {k : Nat} (v : Int) (h : k < l.length) : peek (poke l k v) k = v := by
  rw [peek_at (by rw [length_poke]; exact h), poke_at v h, nth, List.getD_eq_getElem?_getD, List.getElem?_set_self h]; rfl
theorem sw_t {s : St} {i old v : Int} (h : s.can i old = true) : s.swap i old v = (s.poke i v).note 3 i (peek s.l i) true := by rw [St.swap, if_pos h]
theorem sw_f {s : St} {i old v : Int} (h : s.can i old = false) : s.swap i old v = s.note 3 i (peek s.l i) false := by rw [St.swap, if_neg (by simp [h])]
theorem swap_n (s : St) (i o v : Int) : (s.swap i o v).n = inc s.n := by unfold St.swap; split <;> rfl
theorem inc0 : inc 0 = 1 := by decide +kernel
theorem Ar.same {w : World} {p q : Nat} {s : St} {n : Int} {a : Acc} (h : Ar w p q s) (hn : s.n = n) (ha : s.a = a) : Ar w p q ⟨s.l, n, a⟩ := by
  subst hn; subst ha; exact h
theorem cells5_kept {S : List Nat} {w w' : World} {b : Nat} {x0 x1 x2 x3 x4 : Value} (f : Fr S w w') (hb : b ∉ S) (h0 : w.cell? ⟨b, 0, none⟩ = some x0) (h1 : w.cell? ⟨b, 1, none⟩ = some x1) (h2 : w.cell? ⟨b, 2, none⟩ = some x2) (h3 : w.cell? ⟨b, 3, none⟩ = some x3) (h4 : w.cell? ⟨b, 4, none⟩ = some x4) :
    w'.cell? ⟨b, 0, none⟩ = some x0 ∧ w'.cell? ⟨b, 1, none⟩ = some x1 ∧ w'.cell? ⟨b, 2, none⟩ = some x2 ∧ w'.cell? ⟨b, 3, none⟩ = some x3 ∧ w'.cell? ⟨b, 4, none⟩ = some x4 := by
  have hl := World.block_lt_of_cell? w _ h0
  have e : ∀ i, w'.cell? ⟨b, i, none⟩ = w.cell? ⟨b, i, none⟩ := fun i => World.cell?_of_block (f.block b hl hb)
  exact ⟨(e _).trans h0, (e _).trans h1, (e _).trans h2, (e _).trans h3, (e _).trans h4⟩
theorem held_fr {w6 w' : World} {P : Prop} (h : Fr [] w6 w' ∧ P) : Fr [] w6 w' := h.1
theorem held_step {w6 w w' : World} {b : Nat} {x0 x1 x2 x3 x4 : Value} (h : Fr [] w6 w ∧ w.cell? ⟨b, 0, none⟩ = some x0 ∧ w.cell? ⟨b, 1, none⟩ = some x1 ∧ w.cell? ⟨b, 2, none⟩ = some x2 ∧ w.cell? ⟨b, 3, none⟩ = some x3 ∧ w.cell? ⟨b, 4, none⟩ = some x4) (f : Fr [] w w') :
    Fr [] w6 w' ∧ w'.cell? ⟨b, 0, none⟩ = some x0 ∧ w'.cell? ⟨b, 1, none⟩ = some x1 ∧ w'.cell? ⟨b, 2, none⟩ = some x2 ∧ w'.cell? ⟨b, 3, none⟩ = some x3 ∧ w'.cell? ⟨b, 4, none⟩ = some x4 :=
  ⟨h.1.trans f, cells5_kept f (by simp) h.2.1 h.2.2.1 h.2.2.2.1 h.2.2.2.2.1 h.2.2.2.2.2⟩
set_option maxHeartbeats 1600000 in
theorem last_load (a0 : Int) (k : Nat) (v x y kind : Int) (w : World) (h0 : 0 ≤ a0) (hk : a0 % 20 = k) (hlt : k < 20) (h4 : 0 ≤ kind) (hkind : kind % 4 = 0) :
    Calls Try.prog 8 #[.int .u8 a0, .int .i64 v, .int .i64 x, .int .i64 y, .int .u8 kind] w fun e w' => e = .returned (.bool true) ∧ Fr [] w w' := by
  have hs : k < (St.fresh 20).l.length := by rw [len_fresh]; exact hlt
  have hpk : peek ((St.fresh 20).poke k v).l k = v := peek_poke v hs
  have hl1 : k < ((St.fresh 20).poke k v).l.length := by rw [St.poke, length_poke]; exact hs
  have hla : (((St.fresh 20).poke k v).load k).a = ⟨1, k, v, v, false⟩ := by simp only [St.load, St.note, hpk]
  have H := Lib.hid hla
  clear hla hpk hs hl1
  go_enter Try.func8, Try.ntmps8
  go_wp2_with fail
  refine (known_true _).mono ?_; rintro e w1 ⟨rfl, F1⟩
  go_wp2_with fail
  refine (new_at 20 20 (by decide) (by decide) (by omega) _).mono ?_; rintro e w2 ⟨p, q, rfl, hp, hq, A2, F2⟩
  have G2 := F1.trans F2
  have hp : w.heap.size ≤ p := Nat.le_trans F1.size hp
  have hq : w.heap.size ≤ q := Nat.le_trans F1.size hq
  clear F1 F2
  go_wp2_with fail
  refine (poke_any _ p q _ k v A2).mono ?_; rintro e w3 ⟨rfl, A3, F3⟩
  have G3 := G2.own F3 (by simp; omega)
  clear A2 F3 G2
  go_wp2_with fail
  refine (load_any _ p q _ k (A3.alloc _)).mono ?_; rintro e w4 ⟨rfl, A4, F4⟩
  have B4 := F4.heap (Go.heap_alloc_new w3 _) (by have := A3.lt; simp; omega)
  have G4 := (G3.alloc _).own2 F4 hp hq
  have L3 := A3.lt
  clear A3 F4 G3
  obtain ⟨c0, c1, c2, c3, c4⟩ := cells5 B4

  clear B4

  go_wp2_with fail
  refine (peek_any _ p q _ k A4).mono ?_; rintro e w10 ⟨rfl, rfl⟩
  go_wp2_with fail
  refine (poke_any _ p q _ _ 5 A4).mono ?_; rintro e w5 ⟨rfl, A5, F5⟩
  have A5' : Ar w5 p q ⟨(St.poke (((St.fresh 20).poke k v).load k) ((k + 1) % 20) 5).l, 1, ⟨1, k, v, v, false⟩⟩ := A5.same inc0 H.out
  have B5 := cells5_kept F5 (by simp; omega) c0 c1 c2 c3 c4
  obtain ⟨d0, d1, d2, d3, d4⟩ := B5
  have G5 := G4.own F5 (by simp; omega)
  generalize (St.poke (((St.fresh 20).poke k v).load k) ((k + 1) % 20) 5).l = sg at *
  clear A5 A4 G4 F5 c0 c1 c2 c3 c4
  go_wp2_with fail
  refine (copy_any _ p q _ A5').mono ?_; rintro e w6 ⟨p', q', rfl, hp', hq', A6', F6⟩
  have A6 := A5'.kept F6 (by simp) (by simp)
  obtain ⟨c0, c1, c2, c3, c4⟩ := cells5_kept F6 (by simp) d0 d1 d2 d3 d4
  have G6 := G5.trans F6
  clear A5' G5 F6 d0 d1 d2 d3 d4
  go_wp2_with fail
  go_region_held3 (fun w' => Fr [] w6 w' ∧ w'.cell? ⟨w3.heap.size, 0, none⟩ = some (.int .i64 1) ∧ w'.cell? ⟨w3.heap.size, 1, none⟩ = some (.int .i64 k) ∧ w'.cell? ⟨w3.heap.size, 2, none⟩ = some (.int .i64 v) ∧ w'.cell? ⟨w3.heap.size, 3, none⟩ = some (.int .i64 v) ∧ w'.cell? ⟨w3.heap.size, 4, none⟩ = some (.bool false))
    ((first | exact ⟨(Fr.refl _ _).drew, c0, c1, c2, c3, c4⟩ | exact held_step (by assumption) (by assumption) | assumption))
    ((first | (go_at_call 25; have HH := last_of _ p q ⟨sg, 1, ⟨1, k, v, v, false⟩⟩ 1 k v v false (A6.kept (held_fr (by assumption)) (by simp) (by simp)) rfl; (with_reducible refine HH.mono ?_); clear HH; rintro e w' ⟨rfl, F⟩) | (go_at_call 25; have HH := last_of _ p' q' ⟨sg, 1, ⟨1, k, v, v, false⟩⟩ 1 k v v false (A6'.kept (held_fr (by assumption)) (by simp) (by simp)) rfl; (with_reducible refine HH.mono ?_); clear HH; rintro e w' ⟨rfl, F⟩) | (go_at_call 24; have HH := accesses_of _ p q ⟨sg, 1, ⟨1, k, v, v, false⟩⟩ 1 (A6.kept (held_fr (by assumption)) (by simp) (by simp)) rfl; (with_reducible refine HH.mono ?_); clear HH; rintro e w' ⟨rfl, rfl⟩) | (go_at_call 24; have HH := accesses_of _ p' q' ⟨sg, 1, ⟨1, k, v, v, false⟩⟩ 1 (A6'.kept (held_fr (by assumption)) (by simp) (by simp)) rfl; (with_reducible refine HH.mono ?_); clear HH; rintro e w' ⟨rfl, rfl⟩)))
  all_goals
    go_wp2
    go_ret
    exact ⟨rfl, G6.trans (held_fr (by assumption))⟩
set_option maxHeartbeats 1600000 in
theorem last_store (a0 : Int) (k : Nat) (v x y kind : Int) (w : World) (h0 : 0 ≤ a0) (hk : a0 % 20 = k) (hlt : k < 20) (h4 : 0 ≤ kind) (hkind : kind % 4 = 1) :
    Calls Try.prog 8 #[.int .u8 a0, .int .i64 v, .int .i64 x, .int .i64 y, .int .u8 kind] w fun e w' => e = .returned (.bool true) ∧ Fr [] w w' := by
  have hs : k < (St.fresh 20).l.length := by rw [len_fresh]; exact hlt
  have hpk : peek ((St.fresh 20).poke k v).l k = v := peek_poke v hs
  have hl1 : k < ((St.fresh 20).poke k v).l.length := by rw [St.poke, length_poke]; exact hs
  have hla : (((St.fresh 20).poke k v).store k x).a = ⟨2, k, v, x, false⟩ := by
    have hps := peek_poke x hl1
    simp only [St.store, St.note, hpk]; rw [show (((St.fresh 20).poke k v).poke k x).l = poke ((St.fresh 20).poke k v).l k x from rfl, hps]
  have H := Lib.hid hla
  clear hla hpk hs hl1
  go_enter Try.func8, Try.ntmps8
  go_wp2_with fail
  refine (known_true _).mono ?_; rintro e w1 ⟨rfl, F1⟩
  go_wp2_with fail
  refine (new_at 20 20 (by decide) (by decide) (by omega) _).mono ?_; rintro e w2 ⟨p, q, rfl, hp, hq, A2, F2⟩
  have G2 := F1.trans F2
  have hp : w.heap.size ≤ p := Nat.le_trans F1.size hp
  have hq : w.heap.size ≤ q := Nat.le_trans F1.size hq
  clear F1 F2
  go_wp2_with fail
  refine (poke_any _ p q _ k v A2).mono ?_; rintro e w3 ⟨rfl, A3, F3⟩
  have G3 := G2.own F3 (by simp; omega)
  clear A2 F3 G2
  go_wp2_with fail
  refine (store_any _ p q _ k x (A3.alloc _)).mono ?_; rintro e w4 ⟨rfl, A4, F4⟩
  have B4 := F4.heap (Go.heap_alloc_new w3 _) (by have := A3.lt; simp; omega)
  have G4 := (G3.alloc _).own2 F4 hp hq
  have L3 := A3.lt
  clear A3 F4 G3
  obtain ⟨c0, c1, c2, c3, c4⟩ := cells5 B4
  have f3 : w4.frozen? ⟨w3.heap.size, 3, none⟩ = false := frozen_of_row _ _ _ _ _ B4
  have BH := Lib.hid B4
  clear B4
  go_wp2_with fail
  have FS : Fr [w3.heap.size] w4 (w4.setCell ⟨w3.heap.size, 3, none⟩ (.int .i64 x)) := Fr.setCell _ (by simp)
  have B4 := (heap_setCell_same _ _ 3 _ _ (.int .i64 x) BH.out)
  have A4 := A4.kept FS (by simp; omega) (by simp; omega)
  have G4 := G4.own FS (by simp; have := G4.size; have := L3.1; omega)
  clear BH FS f3 c0 c1 c2 c3 c4
  generalize hws : (w4.setCell ⟨w3.heap.size, 3, none⟩ (.int .i64 x)) = ws at *
  clear hws
  obtain ⟨c0, c1, c2, c3, c4⟩ := cells5 B4
  clear B4
  refine (peek_any _ p q _ k A4).mono ?_; rintro e w10 ⟨rfl, rfl⟩
  go_wp2_with fail
  refine (poke_any _ p q _ _ 5 A4).mono ?_; rintro e w5 ⟨rfl, A5, F5⟩
  have A5' : Ar w5 p q ⟨(St.poke (((St.fresh 20).poke k v).store k x) ((k + 1) % 20) 5).l, 1, ⟨2, k, v, x, false⟩⟩ := A5.same inc0 H.out
  have B5 := cells5_kept F5 (by simp; omega) c0 c1 c2 c3 c4
  obtain ⟨d0, d1, d2, d3, d4⟩ := B5
  have G5 := G4.own F5 (by simp; omega)
  generalize (St.poke (((St.fresh 20).poke k v).store k x) ((k + 1) % 20) 5).l = sg at *
  clear A5 A4 G4 F5 c0 c1 c2 c3 c4
  go_wp2_with fail
  refine (copy_any _ p q _ A5').mono ?_; rintro e w6 ⟨p', q', rfl, hp', hq', A6', F6⟩
  have A6 := A5'.kept F6 (by simp) (by simp)
  obtain ⟨c0, c1, c2, c3, c4⟩ := cells5_kept F6 (by simp) d0 d1 d2 d3 d4
  have G6 := G5.trans F6
  clear A5' G5 F6 d0 d1 d2 d3 d4
  go_wp2_with fail
  go_region_held3 (fun w' => Fr [] w6 w' ∧ w'.cell? ⟨w3.heap.size, 0, none⟩ = some (.int .i64 2) ∧ w'.cell? ⟨w3.heap.size, 1, none⟩ = some (.int .i64 k) ∧ w'.cell? ⟨w3.heap.size, 2, none⟩ = some (.int .i64 v) ∧ w'.cell? ⟨w3.heap.size, 3, none⟩ = some (.int .i64 x) ∧ w'.cell? ⟨w3.heap.size, 4, none⟩ = some (.bool false))
    ((first | exact ⟨(Fr.refl _ _).drew, c0, c1, c2, c3, c4⟩ | exact held_step (by assumption) (by assumption) | assumption))
    ((first | (go_at_call 25; have HH := last_of _ p q ⟨sg, 1, ⟨2, k, v, x, false⟩⟩ 2 k v x false (A6.kept (held_fr (by assumption)) (by simp) (by simp)) rfl; (with_reducible refine HH.mono ?_); clear HH; rintro e w' ⟨rfl, F⟩) | (go_at_call 25; have HH := last_of _ p' q' ⟨sg, 1, ⟨2, k, v, x, false⟩⟩ 2 k v x false (A6'.kept (held_fr (by assumption)) (by simp) (by simp)) rfl; (with_reducible refine HH.mono ?_); clear HH; rintro e w' ⟨rfl, F⟩) | (go_at_call 24; have HH := accesses_of _ p q ⟨sg, 1, ⟨2, k, v, x, false⟩⟩ 1 (A6.kept (held_fr (by assumption)) (by simp) (by simp)) rfl; (with_reducible refine HH.mono ?_); clear HH; rintro e w' ⟨rfl, rfl⟩) | (go_at_call 24; have HH := accesses_of _ p' q' ⟨sg, 1, ⟨2, k, v, x, false⟩⟩ 1 (A6'.kept (held_fr (by assumption)) (by simp) (by simp)) rfl; (with_reducible refine HH.mono ?_); clear HH; rintro e w' ⟨rfl, rfl⟩)))
  all_goals
    go_wp2
    go_ret
    exact ⟨rfl, G6.trans (held_fr (by assumption))⟩
set_option maxHeartbeats 1600000 in
theorem last_add (a0 : Int) (k : Nat) (v x y kind : Int) (w : World) (h0 : 0 ≤ a0) (hk : a0 % 20 = k) (hlt : k < 20) (h4 : 0 ≤ kind) (hkind : kind % 4 = 3) :
    Calls Try.prog 8 #[.int .u8 a0, .int .i64 v, .int .i64 x, .int .i64 y, .int .u8 kind] w fun e w' => e = .returned (.bool true) ∧ Fr [] w w' := by
  have hs : k < (St.fresh 20).l.length := by rw [len_fresh]; exact hlt
  have hpk : peek ((St.fresh 20).poke k v).l k = v := peek_poke v hs
  have hl1 : k < ((St.fresh 20).poke k v).l.length := by rw [St.poke, length_poke]; exact hs
  have hla : (((St.fresh 20).poke k v).add k x).a = ⟨4, k, v, wrap64 (v + x), false⟩ := by
    have hps := peek_poke (wrap64 (v + x)) hl1
    simp only [St.add, St.note, hpk]; rw [show (((St.fresh 20).poke k v).poke k (wrap64 (v + x))).l = poke ((St.fresh 20).poke k v).l k (wrap64 (v + x)) from rfl, hps]
  have H := Lib.hid hla
  clear hla hpk hs hl1
  go_enter Try.func8, Try.ntmps8
  go_wp2_with fail
  refine (known_true _).mono ?_; rintro e w1 ⟨rfl, F1⟩
  go_wp2_with fail
  refine (new_at 20 20 (by decide) (by decide) (by omega) _).mono ?_; rintro e w2 ⟨p, q, rfl, hp, hq, A2, F2⟩
  have G2 := F1.trans F2
  have hp : w.heap.size ≤ p := Nat.le_trans F1.size hp
  have hq : w.heap.size ≤ q := Nat.le_trans F1.size hq
  clear F1 F2
  go_wp2_with fail
  refine (poke_any _ p q _ k v A2).mono ?_; rintro e w3 ⟨rfl, A3, F3⟩
  have G3 := G2.own F3 (by simp; omega)
  clear A2 F3 G2
  go_wp2_with fail
  refine (add_any _ p q _ k x (A3.alloc _)).mono ?_; rintro e w4 ⟨rfl, A4, F4⟩
  have B4 := F4.heap (Go.heap_alloc_new w3 _) (by have := A3.lt; simp; omega)
  have G4 := (G3.alloc _).own2 F4 hp hq
  have L3 := A3.lt
  clear A3 F4 G3
  obtain ⟨c0, c1, c2, c3, c4⟩ := cells5 B4
  have f3 : w4.frozen? ⟨w3.heap.size, 3, none⟩ = false := frozen_of_row _ _ _ _ _ B4
  have BH := Lib.hid B4
  clear B4
  go_wp2_with fail
  have FS : Fr [w3.heap.size] w4 (w4.setCell ⟨w3.heap.size, 3, none⟩ (.int .i64 (wrap64 (v + x)))) := Fr.setCell _ (by simp)
  have B4 := (heap_setCell_same _ _ 3 _ _ (.int .i64 (wrap64 (v + x))) BH.out)
  have A4 := A4.kept FS (by simp; omega) (by simp; omega)
  have G4 := G4.own FS (by simp; have := G4.size; have := L3.1; omega)
  clear BH FS f3 c0 c1 c2 c3 c4
  generalize hws : (w4.setCell ⟨w3.heap.size, 3, none⟩ (.int .i64 (wrap64 (v + x)))) = ws at *
  clear hws
  obtain ⟨c0, c1, c2, c3, c4⟩ := cells5 B4
  clear B4
  refine (peek_any _ p q _ k A4).mono ?_; rintro e w10 ⟨rfl, rfl⟩
  go_wp2_with fail
  refine (poke_any _ p q _ _ 5 A4).mono ?_; rintro e w5 ⟨rfl, A5, F5⟩
  have A5' : Ar w5 p q ⟨(St.poke (((St.fresh 20).poke k v).add k x) ((k + 1) % 20) 5).l, 1, ⟨4, k, v, wrap64 (v + x), false⟩⟩ := A5.same inc0 H.out
  have B5 := cells5_kept F5 (by simp; omega) c0 c1 c2 c3 c4
  obtain ⟨d0, d1, d2, d3, d4⟩ := B5
  have G5 := G4.own F5 (by simp; omega)
  generalize (St.poke (((St.fresh 20).poke k v).add k x) ((k + 1) % 20) 5).l = sg at *
  clear A5 A4 G4 F5 c0 c1 c2 c3 c4
  go_wp2_with fail
  refine (copy_any _ p q _ A5').mono ?_; rintro e w6 ⟨p', q', rfl, hp', hq', A6', F6⟩
  have A6 := A5'.kept F6 (by simp) (by simp)
  obtain ⟨c0, c1, c2, c3, c4⟩ := cells5_kept F6 (by simp) d0 d1 d2 d3 d4
  have G6 := G5.trans F6
  clear A5' G5 F6 d0 d1 d2 d3 d4
  go_wp2_with fail
  go_region_held3 (fun w' => Fr [] w6 w' ∧ w'.cell? ⟨w3.heap.size, 0, none⟩ = some (.int .i64 4) ∧ w'.cell? ⟨w3.heap.size, 1, none⟩ = some (.int .i64 k) ∧ w'.cell? ⟨w3.heap.size, 2, none⟩ = some (.int .i64 v) ∧ w'.cell? ⟨w3.heap.size, 3, none⟩ = some (.int .i64 (wrap64 (v + x))) ∧ w'.cell? ⟨w3.heap.size, 4, none⟩ = some (.bool false))
    ((first | exact ⟨(Fr.refl _ _).drew, c0, c1, c2, c3, c4⟩ | exact held_step (by assumption) (by assumption) | assumption))
    ((first | (go_at_call 25; have HH := last_of _ p q ⟨sg, 1, ⟨4, k, v, wrap64 (v + x), false⟩⟩ 4 k v (wrap64 (v + x)) false (A6.kept (held_fr (by assumption)) (by simp) (by simp)) rfl; (with_reducible refine HH.mono ?_); clear HH; rintro e w' ⟨rfl, F⟩) | (go_at_call 25; have HH := last_of _ p' q' ⟨sg, 1, ⟨4, k, v, wrap64 (v + x), false⟩⟩ 4 k v (wrap64 (v + x)) false (A6'.kept (held_fr (by assumption)) (by simp) (by simp)) rfl; (with_reducible refine HH.mono ?_); clear HH; rintro e w' ⟨rfl, F⟩) | (go_at_call 24; have HH := accesses_of _ p q ⟨sg, 1, ⟨4, k, v, wrap64 (v + x), false⟩⟩ 1 (A6.kept (held_fr (by assumption)) (by simp) (by simp)) rfl; (with_reducible refine HH.mono ?_); clear HH; rintro e w' ⟨rfl, rfl⟩) | (go_at_call 24; have HH := accesses_of _ p' q' ⟨sg, 1, ⟨4, k, v, wrap64 (v + x), false⟩⟩ 1 (A6'.kept (held_fr (by assumption)) (by simp) (by simp)) rfl; (with_reducible refine HH.mono ?_); clear HH; rintro e w' ⟨rfl, rfl⟩)))
  all_goals
    go_wp2
    go_ret
    exact ⟨rfl, G6.trans (held_fr (by assumption))⟩
set_option maxHeartbeats 1600000 in
theorem last_swapt (a0 : Int) (k : Nat) (v x y kind : Int) (w : World) (h0 : 0 ≤ a0) (hk : a0 % 20 = k) (hlt : k < 20) (h4 : 0 ≤ kind) (hkind : kind % 4 = 2) (hvx : v = x) :
    Calls Try.prog 8 #[.int .u8 a0, .int .i64 v, .int .i64 x, .int .i64 y, .int .u8 kind] w fun e w' => e = .returned (.bool true) ∧ Fr [] w w' := by
  have hs : k < (St.fresh 20).l.length := by rw [len_fresh]; exact hlt
  have hpk : peek ((St.fresh 20).poke k v).l k = v := peek_poke v hs
  have hl1 : k < ((St.fresh 20).poke k v).l.length := by rw [St.poke, length_poke]; exact hs
  have hcan : ((St.fresh 20).poke k v).can k x = true := by simp only [St.can, isAt_in hl1, hpk, Bool.true_and, beq_iff_eq]; exact hvx
  have hla : (((St.fresh 20).poke k v).swap k x y).a = ⟨3, k, v, y, true⟩ := by
    have hps := peek_poke y hl1
    rw [sw_t hcan]; simp only [St.note, hpk]; rw [show (((St.fresh 20).poke k v).poke k y).l = poke ((St.fresh 20).poke k v).l k y from rfl, hps]
  have HC := Lib.hid hcan
  clear hcan
  have hvb : (v == x) = true := by simpa using hvx
  clear hvx
  have H := Lib.hid hla
  clear hla hpk hs hl1
  go_enter Try.func8, Try.ntmps8
  go_wp2_with fail
  refine (known_true _).mono ?_; rintro e w1 ⟨rfl, F1⟩
  go_wp2_with fail
  refine (new_at 20 20 (by decide) (by decide) (by omega) _).mono ?_; rintro e w2 ⟨p, q, rfl, hp, hq, A2, F2⟩
  have G2 := F1.trans F2
  have hp : w.heap.size ≤ p := Nat.le_trans F1.size hp
  have hq : w.heap.size ≤ q := Nat.le_trans F1.size hq
  clear F1 F2
  go_wp2_with fail
  refine (poke_any _ p q _ k v A2).mono ?_; rintro e w3 ⟨rfl, A3, F3⟩
  have G3 := G2.own F3 (by simp; omega)
  clear A2 F3 G2
  go_wp2_with fail
  refine (swap_of _ p q _ k x y true (A3.alloc _) HC.out).mono ?_; rintro e w4 ⟨rfl, A4, F4⟩
  have B4 := F4.heap (Go.heap_alloc_new w3 _) (by have := A3.lt; simp; omega)
  have G4 := (G3.alloc _).own2 F4 hp hq
  have L3 := A3.lt
  clear A3 F4 G3
  obtain ⟨c0, c1, c2, c3, c4⟩ := cells5 B4
  have f4 : w4.frozen? ⟨w3.heap.size, 4, none⟩ = false := frozen_of_row _ _ _ _ _ B4
  have f3 : w4.frozen? ⟨w3.heap.size, 3, none⟩ = false := frozen_of_row _ _ _ _ _ B4
  have BH := Lib.hid B4
  clear B4
  go_wp2_with fail
  have FS : Fr [w3.heap.size] w4 ((w4.setCell ⟨w3.heap.size, 4, none⟩ (.bool true)).setCell ⟨w3.heap.size, 3, none⟩ (.int .i64 y)) := (Fr.setCell _ (by simp)).setCell' _ (by simp)
  have B4 := (heap_setCell_same _ _ 3 _ _ (.int .i64 y) (heap_setCell_same _ _ 4 _ _ (.bool true) BH.out))
  have A4 := A4.kept FS (by simp; omega) (by simp; omega)
  have G4 := G4.own FS (by simp; have := G4.size; have := L3.1; omega)
  clear BH FS f4 f3 c0 c1 c2 c3 c4
  generalize hws : ((w4.setCell ⟨w3.heap.size, 4, none⟩ (.bool true)).setCell ⟨w3.heap.size, 3, none⟩ (.int .i64 y)) = ws at *
  clear hws
  obtain ⟨c0, c1, c2, c3, c4⟩ := cells5 B4
  clear B4
  refine (peek_any _ p q _ k A4).mono ?_; rintro e w10 ⟨rfl, rfl⟩
  go_wp2_with fail
  refine (poke_any _ p q _ _ 5 A4).mono ?_; rintro e w5 ⟨rfl, A5, F5⟩
  have A5' : Ar w5 p q ⟨(St.poke (((St.fresh 20).poke k v).swap k x y) ((k + 1) % 20) 5).l, 1, ⟨3, k, v, y, true⟩⟩ := A5.same ((swap_n _ _ _ _).trans inc0) H.out
  have B5 := cells5_kept F5 (by simp; omega) c0 c1 c2 c3 c4
  obtain ⟨d0, d1, d2, d3, d4⟩ := B5
  have G5 := G4.own F5 (by simp; omega)
  generalize (St.poke (((St.fresh 20).poke k v).swap k x y) ((k + 1) % 20) 5).l = sg at *
  clear A5 A4 G4 F5 c0 c1 c2 c3 c4
  go_wp2_with fail
  refine (copy_any _ p q _ A5').mono ?_; rintro e w6 ⟨p', q', rfl, hp', hq', A6', F6⟩
  have A6 := A5'.kept F6 (by simp) (by simp)
  obtain ⟨c0, c1, c2, c3, c4⟩ := cells5_kept F6 (by simp) d0 d1 d2 d3 d4
  have G6 := G5.trans F6
  clear A5' G5 F6 d0 d1 d2 d3 d4
  go_wp2_with fail
  go_region_held3 (fun w' => Fr [] w6 w' ∧ w'.cell? ⟨w3.heap.size, 0, none⟩ = some (.int .i64 3) ∧ w'.cell? ⟨w3.heap.size, 1, none⟩ = some (.int .i64 k) ∧ w'.cell? ⟨w3.heap.size, 2, none⟩ = some (.int .i64 v) ∧ w'.cell? ⟨w3.heap.size, 3, none⟩ = some (.int .i64 y) ∧ w'.cell? ⟨w3.heap.size, 4, none⟩ = some (.bool true))
    ((first | exact ⟨(Fr.refl _ _).drew, c0, c1, c2, c3, c4⟩ | exact held_step (by assumption) (by assumption) | assumption))
    ((first | (go_at_call 25; have HH := last_of _ p q ⟨sg, 1, ⟨3, k, v, y, true⟩⟩ 3 k v y true (A6.kept (held_fr (by assumption)) (by simp) (by simp)) rfl; (with_reducible refine HH.mono ?_); clear HH; rintro e w' ⟨rfl, F⟩) | (go_at_call 25; have HH := last_of _ p' q' ⟨sg, 1, ⟨3, k, v, y, true⟩⟩ 3 k v y true (A6'.kept (held_fr (by assumption)) (by simp) (by simp)) rfl; (with_reducible refine HH.mono ?_); clear HH; rintro e w' ⟨rfl, F⟩) | (go_at_call 24; have HH := accesses_of _ p q ⟨sg, 1, ⟨3, k, v, y, true⟩⟩ 1 (A6.kept (held_fr (by assumption)) (by simp) (by simp)) rfl; (with_reducible refine HH.mono ?_); clear HH; rintro e w' ⟨rfl, rfl⟩) | (go_at_call 24; have HH := accesses_of _ p' q' ⟨sg, 1, ⟨3, k, v, y, true⟩⟩ 1 (A6'.kept (held_fr (by assumption)) (by simp) (by simp)) rfl; (with_reducible refine HH.mono ?_); clear HH; rintro e w' ⟨rfl, rfl⟩)))
  all_goals
    go_wp2
    go_ret
    exact ⟨rfl, G6.trans (held_fr (by assumption))⟩
set_option maxHeartbeats 1600000 in
theorem last_swapf (a0 : Int) (k : Nat) (v x y kind : Int) (w : World) (h0 : 0 ≤ a0) (hk : a0 % 20 = k) (hlt : k < 20) (h4 : 0 ≤ kind) (hkind : kind % 4 = 2) (hvx : ¬ v = x) :
    Calls Try.prog 8 #[.int .u8 a0, .int .i64 v, .int .i64 x, .int .i64 y, .int .u8 kind] w fun e w' => e = .returned (.bool true) ∧ Fr [] w w' := by
  have hs : k < (St.fresh 20).l.length := by rw [len_fresh]; exact hlt
  have hpk : peek ((St.fresh 20).poke k v).l k = v := peek_poke v hs
  have hl1 : k < ((St.fresh 20).poke k v).l.length := by rw [St.poke, length_poke]; exact hs
  have hcan : ((St.fresh 20).poke k v).can k x = false := by simp only [St.can, isAt_in hl1, hpk, Bool.true_and]; simpa using hvx
  have hla : (((St.fresh 20).poke k v).swap k x y).a = ⟨3, k, v, v, false⟩ := by
    rw [sw_f hcan]; simp only [St.note, hpk]
  have HC := Lib.hid hcan
  clear hcan
  have hvb : (v == x) = false := by simpa using hvx
  clear hvx
  have H := Lib.hid hla
  clear hla hpk hs hl1
  go_enter Try.func8, Try.ntmps8
  go_wp2_with fail
  refine (known_true _).mono ?_; rintro e w1 ⟨rfl, F1⟩
  go_wp2_with fail
  refine (new_at 20 20 (by decide) (by decide) (by omega) _).mono ?_; rintro e w2 ⟨p, q, rfl, hp, hq, A2, F2⟩
  have G2 := F1.trans F2
  have hp : w.heap.size ≤ p := Nat.le_trans F1.size hp
  have hq : w.heap.size ≤ q := Nat.le_trans F1.size hq
  clear F1 F2
  go_wp2_with fail
  refine (poke_any _ p q _ k v A2).mono ?_; rintro e w3 ⟨rfl, A3, F3⟩
  have G3 := G2.own F3 (by simp; omega)
  clear A2 F3 G2
  go_wp2_with fail
  refine (swap_of _ p q _ k x y false (A3.alloc _) HC.out).mono ?_; rintro e w4 ⟨rfl, A4, F4⟩
  have B4 := F4.heap (Go.heap_alloc_new w3 _) (by have := A3.lt; simp; omega)
  have G4 := (G3.alloc _).own2 F4 hp hq
  have L3 := A3.lt
  clear A3 F4 G3
  obtain ⟨c0, c1, c2, c3, c4⟩ := cells5 B4
  have f4 : w4.frozen? ⟨w3.heap.size, 4, none⟩ = false := frozen_of_row _ _ _ _ _ B4
  have BH := Lib.hid B4
  clear B4
  go_wp2_with fail
  have FS : Fr [w3.heap.size] w4 (w4.setCell ⟨w3.heap.size, 4, none⟩ (.bool false)) := Fr.setCell _ (by simp)
  have B4 := (heap_setCell_same _ _ 4 _ _ (.bool false) BH.out)
  have A4 := A4.kept FS (by simp; omega) (by simp; omega)
  have G4 := G4.own FS (by simp; have := G4.size; have := L3.1; omega)
  clear BH FS f4 c0 c1 c2 c3 c4
  generalize hws : (w4.setCell ⟨w3.heap.size, 4, none⟩ (.bool false)) = ws at *
  clear hws
  obtain ⟨c0, c1, c2, c3, c4⟩ := cells5 B4
  clear B4
  refine (peek_any _ p q _ k A4).mono ?_; rintro e w10 ⟨rfl, rfl⟩
  go_wp2_with fail
  refine (poke_any _ p q _ _ 5 A4).mono ?_; rintro e w5 ⟨rfl, A5, F5⟩
  have A5' : Ar w5 p q ⟨(St.poke (((St.fresh 20).poke k v).swap k x y) ((k + 1) % 20) 5).l, 1, ⟨3, k, v, v, false⟩⟩ := A5.same ((swap_n _ _ _ _).trans inc0) H.out
  have B5 := cells5_kept F5 (by simp; omega) c0 c1 c2 c3 c4
  obtain ⟨d0, d1, d2, d3, d4⟩ := B5
  have G5 := G4.own F5 (by simp; omega)
  generalize (St.poke (((St.fresh 20).poke k v).swap k x y) ((k + 1) % 20) 5).l = sg at *
  clear A5 A4 G4 F5 c0 c1 c2 c3 c4
  go_wp2_with fail
  refine (copy_any _ p q _ A5').mono ?_; rintro e w6 ⟨p', q', rfl, hp', hq', A6', F6⟩
  have A6 := A5'.kept F6 (by simp) (by simp)
  obtain ⟨c0, c1, c2, c3, c4⟩ := cells5_kept F6 (by simp) d0 d1 d2 d3 d4
  have G6 := G5.trans F6
  clear A5' G5 F6 d0 d1 d2 d3 d4
  go_wp2_with fail
  go_region_held3 (fun w' => Fr [] w6 w' ∧ w'.cell? ⟨w3.heap.size, 0, none⟩ = some (.int .i64 3) ∧ w'.cell? ⟨w3.heap.size, 1, none⟩ = some (.int .i64 k) ∧ w'.cell? ⟨w3.heap.size, 2, none⟩ = some (.int .i64 v) ∧ w'.cell? ⟨w3.heap.size, 3, none⟩ = some (.int .i64 v) ∧ w'.cell? ⟨w3.heap.size, 4, none⟩ = some (.bool false))
    ((first | exact ⟨(Fr.refl _ _).drew, c0, c1, c2, c3, c4⟩ | exact held_step (by assumption) (by assumption) | assumption))
    ((first | (go_at_call 25; have HH := last_of _ p q ⟨sg, 1, ⟨3, k, v, v, false⟩⟩ 3 k v v false (A6.kept (held_fr (by assumption)) (by simp) (by simp)) rfl; (with_reducible refine HH.mono ?_); clear HH; rintro e w' ⟨rfl, F⟩) | (go_at_call 25; have HH := last_of _ p' q' ⟨sg, 1, ⟨3, k, v, v, false⟩⟩ 3 k v v false (A6'.kept (held_fr (by assumption)) (by simp) (by simp)) rfl; (with_reducible refine HH.mono ?_); clear HH; rintro e w' ⟨rfl, F⟩) | (go_at_call 24; have HH := accesses_of _ p q ⟨sg, 1, ⟨3, k, v, v, false⟩⟩ 1 (A6.kept (held_fr (by assumption)) (by simp) (by simp)) rfl; (with_reducible refine HH.mono ?_); clear HH; rintro e w' ⟨rfl, rfl⟩) | (go_at_call 24; have HH := accesses_of _ p' q' ⟨sg, 1, ⟨3, k, v, v, false⟩⟩ 1 (A6'.kept (held_fr (by assumption)) (by simp) (by simp)) rfl; (with_reducible refine HH.mono ?_); clear HH; rintro e w' ⟨rfl, rfl⟩)))
  all_goals
    go_wp2
    go_ret
    exact ⟨rfl, G6.trans (held_fr (by assumption))⟩
theorem last_true (a0 v x y kind : Int) (w : World) (h0 : 0 ≤ a0) (h4 : 0 ≤ kind) :
    Calls Try.prog 8 #[.int .u8 a0, .int .i64 v, .int .i64 x, .int .i64 y, .int .u8 kind] w fun e w' => e = .returned (.bool true) ∧ Fr [] w w' := by
  obtain ⟨k, hk⟩ := Int.eq_ofNat_of_zero_le (show 0 ≤ a0 % 20 by omega)
  have hlt : k < 20 := by omega
  by_cases c0 : kind % 4 = 0
  · exact last_load a0 k v x y kind w h0 hk hlt h4 c0
  by_cases c1 : kind % 4 = 1
  · exact last_store a0 k v x y kind w h0 hk hlt h4 c1
  by_cases c2 : kind % 4 = 2
  · by_cases hvx : v = x
    · exact last_swapt a0 k v x y kind w h0 hk hlt h4 c2 hvx
    · exact last_swapf a0 k v x y kind w h0 hk hlt h4 c2 hvx
  · exact last_add a0 k v x y kind w h0 hk hlt h4 (by omega)
end Go.Proofs.Ytbkjjalagmbchaa.Ar
