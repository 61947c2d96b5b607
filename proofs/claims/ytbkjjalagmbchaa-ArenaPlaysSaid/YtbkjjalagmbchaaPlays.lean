/- The walk of ArenaPlays: the arena and the reference's, access by access. -/
import Derived.Test.YtbkjjalagmbchaaApart
namespace Go.Proofs.Ytbkjjalagmbchaa.Ar
open Go.RowKit
set_option linter.unusedVariables false
open Ref (Rar)
def PlAt (w : World) (p q p2 q2 n len : Nat) (v : Value) (wr : World) : Prop := ∃ m s, m ≤ len ∧ v = .int .i64 (m : Nat) ∧ Ar wr p q s ∧ Rar wr p2 q2 s ∧ s.l.length = n ∧ Fr [] w wr
def PkAt (w : World) (p q p2 q2 : Nat) (s : St) (v : Value) (wr : World) : Prop := ∃ m, m ≤ s.l.length ∧ v = .int .i64 (m : Nat) ∧ Ar wr p q s ∧ Rar wr p2 q2 s ∧ Fr [] w wr
theorem cells3_kept {S : List Nat} {w w' : World} {b : Nat} {x1 x2 x3 : Value} (h : w.cell? ⟨b, 1, none⟩ = some x1 ∧ w.cell? ⟨b, 2, none⟩ = some x2 ∧ w.cell? ⟨b, 3, none⟩ = some x3) (f : Fr S w w') (hb : b ∉ S) :
    w'.cell? ⟨b, 1, none⟩ = some x1 ∧ w'.cell? ⟨b, 2, none⟩ = some x2 ∧ w'.cell? ⟨b, 3, none⟩ = some x3 := by
  have hl := World.block_lt_of_cell? w _ h.1
  have e : ∀ i, w'.cell? ⟨b, i, none⟩ = w.cell? ⟨b, i, none⟩ := fun i => World.cell?_of_block (f.block b hl hb)
  exact ⟨(e _).trans h.1, (e _).trans h.2.1, (e _).trans h.2.2⟩
theorem cells4 {w : World} {b : Nat} {t : TypeId} {x0 x1 x2 x3 : Value} (h : w.heap[b]? = some (.cells #[x0, x1, x2, x3] t (0, 0))) :
    w.cell? ⟨b, 0, none⟩ = some x0 ∧ w.cell? ⟨b, 1, none⟩ = some x1 ∧ w.cell? ⟨b, 2, none⟩ = some x2 ∧ w.cell? ⟨b, 3, none⟩ = some x3 :=
  ⟨by rw [cell_of_row _ _ _ _ _ _ h]; rfl, by rw [cell_of_row _ _ _ _ _ _ h]; rfl, by rw [cell_of_row _ _ _ _ _ _ h]; rfl, by rw [cell_of_row _ _ _ _ _ _ h]; rfl⟩
theorem rarCells {w : World} {p q : Nat} {s : St} (h : Rar w p q s) : ∃ cap, s.l.length ≤ cap ∧ w.cell? ⟨p, 0, none⟩ = some (.slice (some ⟨q, 0, none⟩) s.l.length cap) ∧ w.cell? ⟨p, 1, none⟩ = some (.int .i64 s.n) ∧ w.cell? ⟨p, 2, none⟩ = some (.int .i64 s.a.kind) ∧
    w.cell? ⟨p, 3, none⟩ = some (.int .i64 s.a.at_) ∧ w.cell? ⟨p, 4, none⟩ = some (.int .i64 s.a.old) ∧ w.cell? ⟨p, 5, none⟩ = some (.int .i64 s.a.new) ∧ w.cell? ⟨p, 6, none⟩ = some (.bool s.a.ok) ∧ ∀ i, i < s.l.length → w.cell? ⟨q, i, none⟩ = some (.int .i64 (nth s.l i)) := by
  obtain ⟨ne, lo, hi, cap, c, hp, hc1, hc2, hq, hs, hc⟩ := h
  exact ⟨cap, hc1, by rw [cell_of_row w p 0 _ _ _ hp]; rfl, by rw [cell_of_row w p 1 _ _ _ hp]; rfl, by rw [cell_of_row w p 2 _ _ _ hp]; rfl, by rw [cell_of_row w p 3 _ _ _ hp]; rfl, by rw [cell_of_row w p 4 _ _ _ hp]; rfl, by rw [cell_of_row w p 5 _ _ _ hp]; rfl, by rw [cell_of_row w p 6 _ _ _ hp]; rfl,
    fun i hi => by rw [cell_of_row w q i _ _ _ hq]; exact hc i hi⟩
theorem kept28 {w v v' : World} {p q p2 q2 b : Nat} {t : St} {x0 x1 x2 x3 x4 x5 x6 : Value} (h : (Ar v p q t ∧ Rar v p2 q2 t ∧ Fr [] w v) ∧ v.cell? ⟨b, 0, none⟩ = some x0 ∧ v.cell? ⟨b, 1, none⟩ = some x1 ∧ v.cell? ⟨b, 2, none⟩ = some x2 ∧ v.cell? ⟨b, 3, none⟩ = some x3 ∧ v.cell? ⟨b, 4, none⟩ = some x4 ∧ v.cell? ⟨b, 5, none⟩ = some x5 ∧ v.cell? ⟨b, 6, none⟩ = some x6)
    (f : Fr [] v v') : (Ar v' p q t ∧ Rar v' p2 q2 t ∧ Fr [] w v') ∧ v'.cell? ⟨b, 0, none⟩ = some x0 ∧ v'.cell? ⟨b, 1, none⟩ = some x1 ∧ v'.cell? ⟨b, 2, none⟩ = some x2 ∧ v'.cell? ⟨b, 3, none⟩ = some x3 ∧ v'.cell? ⟨b, 4, none⟩ = some x4 ∧ v'.cell? ⟨b, 5, none⟩ = some x5 ∧ v'.cell? ⟨b, 6, none⟩ = some x6 := by
  obtain ⟨⟨a, r, g⟩, h0, h1, h2, h3, h4, h5, h6⟩ := h
  have hl := World.block_lt_of_cell? v _ h0
  have e : ∀ i, v'.cell? ⟨b, i, none⟩ = v.cell? ⟨b, i, none⟩ := fun i => World.cell?_of_block (f.block b hl (by simp))
  exact ⟨⟨a.kept f (by simp) (by simp), r.kept f (by simp) (by simp), g.trans f⟩, (e _).trans h0, (e _).trans h1, (e _).trans h2, (e _).trans h3, (e _).trans h4, (e _).trans h5, (e _).trans h6⟩
theorem h28a {w v : World} {p q p2 q2 : Nat} {t : St} {P : Prop} (h : (Ar v p q t ∧ Rar v p2 q2 t ∧ Fr [] w v) ∧ P) : Ar v p q t := h.1.1
theorem h28b {w v : World} {p q p2 q2 : Nat} {t : St} {P : Prop} (h : (Ar v p q t ∧ Rar v p2 q2 t ∧ Fr [] w v) ∧ P) : Rar v p2 q2 t := h.1.2.1
theorem h28c {w v : World} {p q p2 q2 : Nat} {t : St} {P : Prop} (h : (Ar v p q t ∧ Rar v p2 q2 t ∧ Fr [] w v) ∧ P) : Fr [] w v := h.1.2.2
theorem rarDrew {w : World} {p q : Nat} {s : St} (h : Rar w p q s) : Rar w.drew p q s := h.kept ((Fr.refl [] w).drew) (by simp) (by simp)
theorem rarAlloc {w : World} {p q : Nat} {s : St} (h : Rar w p q s) (o : Obj) : Rar (w.alloc o) p q s := h.kept ((Fr.refl [] w).alloc o) (by simp) (by simp)
theorem length_note (s : St) (k i o : Int) (b : Bool) : (s.note k i o b).l.length = s.l.length := rfl
theorem length_pk (s : St) (i v : Int) : (s.poke i v).l.length = s.l.length := length_poke _ _ _
theorem length_sw (s : St) (i o v : Int) : (s.swap i o v).l.length = s.l.length := by unfold St.swap; split <;> simp [length_note, length_pk]
set_option maxRecDepth 100000 in
set_option maxHeartbeats 80000000 in
theorem plays_few (i : Int) (va : Option Addr) (len cap n : Nat) (z : Nat → Nat → Int) (w : World) (hi : i ≤ 300) (hl : len ≤ 60) (lo : 1 ≤ n) (hn : n ≤ 300) (hN : (i < 1 ∧ n = 1) ∨ (1 ≤ i ∧ i ≤ 20000 ∧ i = n) ∨ (20000 < i ∧ n = 20000))
    (hz : len = 0 ∨ ∃ b off, va = some ⟨b, off, none⟩ ∧ b < w.heap.size ∧ ∀ i, i < len → ∀ j, j < 4 → w.cell? ⟨b, off + (i * 4 + j), none⟩ = some (.int .i64 (z i j))) :
    Calls Try.prog 3 #[.int .i64 i, .slice va len cap] w fun e w' => e = .returned (.bool true) ∧ Fr [] w w' := by
  have HZ := Lib.hid hz
  have HN := Lib.hid hN
  clear hz hN
  go_enter Try.func3, Try.ntmps3
  go_wp2_with fail
  refine (known_true _).mono ?_; rintro e w1 ⟨rfl, F1⟩
  go_wp2_with fail
  refine (new_at n i lo (by omega) HN.out _).mono ?_; rintro e w2 ⟨p, q, rfl, hp, hq, A2, F2⟩
  have G2 := F1.trans F2
  have L2 := A2.lt
  have hp : w.heap.size ≤ p := Nat.le_trans F1.size hp
  have hq : w.heap.size ≤ q := Nat.le_trans F1.size hq
  clear F1 F2
  go_wp2_with fail
  refine (Ref.new_at n i lo (by omega) HN.out _).mono ?_; rintro e w3 ⟨p2, q2, rfl, hp2, hq2, B3, F3⟩
  have G3 := G2.trans F3
  have A3 := A2.kept F3 (by simp) (by simp)
  have hp2w : w.heap.size ≤ p2 := Nat.le_trans G2.size hp2
  have hq2w : w.heap.size ≤ q2 := Nat.le_trans G2.size hq2
  have np : p2 ∉ [p, q] := by simp; omega
  have nq : q2 ∉ [p, q] := by simp; omega
  have mp : p ∉ [p2, q2] := by simp; omega
  have mq : q ∉ [p2, q2] := by simp; omega
  clear A2 G2 F3
  go_wp2_with fail
  go_loopw [7] (PlAt w p q p2 q2 n len) (fun v _ => len - (intOf v).toNat)
  case atStart => exact ⟨0, _, Nat.zero_le _, rfl, A3, B3, len_fresh n, G3⟩
  case round =>
    obtain ⟨m, s, hm, rfl, A, B, hs, G⟩ := hrel
    clear A3 B3 G3
    by_cases hlt : m < len
    · rcases HZ.out with hz | ⟨b, off, rfl, hb, hcell⟩
      · omega
      have e : ∀ k, wr.cell? ⟨b, k, none⟩ = w.cell? ⟨b, k, none⟩ := fun k => World.cell?_of_block (G.block b hb (by simp))
      have d0 : wr.cell? ⟨b, off + m * 4, none⟩ = some (.int .i64 (z m 0)) := by rw [show off + m * 4 = off + (m * 4 + 0) by omega]; exact (e _).trans (hcell m hlt 0 (by decide))
      have d1 : wr.cell? ⟨b, off + m * 4 + 1, none⟩ = some (.int .i64 (z m 1)) := by rw [show off + m * 4 + 1 = off + (m * 4 + 1) by omega]; exact (e _).trans (hcell m hlt 1 (by decide))
      have d2 : wr.cell? ⟨b, off + m * 4 + 2, none⟩ = some (.int .i64 (z m 2)) := by rw [show off + m * 4 + 2 = off + (m * 4 + 2) by omega]; exact (e _).trans (hcell m hlt 2 (by decide))
      have d3 : wr.cell? ⟨b, off + m * 4 + 3, none⟩ = some (.int .i64 (z m 3)) := by rw [show off + m * 4 + 3 = off + (m * 4 + 3) by omega]; exact (e _).trans (hcell m hlt 3 (by decide))
      clear e hcell HZ
      generalize z m 0 = z0 at *
      generalize z m 1 = z1 at *
      generalize z m 2 = z2 at *
      generalize z m 3 = z3 at *
      by_cases c_load : z0 = 0
      · subst c_load
        go_wp2_with fail
        have L := A.lt
        have L' := B.lt
        obtain ⟨c0, c1, c2, c3⟩ := cells4 (Go.heap_alloc_new wr (.cells #[.int .i64 0, .int .i64 z1, .int .i64 z2, .int .i64 z3] 29))
        have nb1 : wr.heap.size ∉ [p, q] := by simp; omega
        have nb2 : wr.heap.size ∉ [p2, q2] := by simp; omega
        have As := A.alloc (.cells #[.int .i64 0, .int .i64 z1, .int .i64 z2, .int .i64 z3] 29)
        have Bs := rarAlloc B (.cells #[.int .i64 0, .int .i64 z1, .int .i64 z2, .int .i64 z3] 29)
        have Gs := G.alloc (.cells #[.int .i64 0, .int .i64 z1, .int .i64 z2, .int .i64 z3] 29)
        clear A B G d0 d1 d2 d3 L L'
        generalize wr.alloc (.cells #[.int .i64 0, .int .i64 z1, .int .i64 z2, .int .i64 z3] 29) = ws at *
        generalize wr.heap.size = bs at *
        have Ad := As.drew
        have Bd := rarDrew Bs
        have Gd := Gs.drew
        clear As Bs Gs
        go_region_held3 (fun w' => w'.cell? ⟨bs, 1, none⟩ = some (.int .i64 z1) ∧ w'.cell? ⟨bs, 2, none⟩ = some (.int .i64 z2) ∧ w'.cell? ⟨bs, 3, none⟩ = some (.int .i64 z3))
          ((first | exact ⟨c1, c2, c3⟩ | assumption | exact cells3_kept (by assumption) (by assumption) (by assumption)))
          ((first | (go_at_call 12; have HH := load_any _ p q s z1 Ad; (with_reducible refine HH.mono ?_); clear HH; rintro e w' ⟨rfl, A', F'⟩) | (go_at_call 13; have HH := Ref.load_any _ p2 q2 s z1 (Bd.kept (S := [p, q]) (by assumption) np nq); (with_reducible refine HH.mono ?_); clear HH; rintro e w' ⟨rfl, B', F'⟩)))
        have At := Ar.kept (by assumption : Ar _ p q (s.load z1)) (by assumption : Fr [p2, q2] _ _) mp mq
        have Bt := (by assumption : Rar _ p2 q2 (s.load z1))
        have Gt := (Gd.own2 (by assumption : Fr [p, q] _ _) hp hq).own2 (by assumption : Fr [p2, q2] _ _) hp2w hq2w
        clear Ad Bd Gd c0 c1 c2 c3
        have ht : ((s.load z1)).l.length = n := by exact hs
        generalize (s.load z1) = t at *
        go_wp2_with fail
        obtain ⟨cp, hcp, g0, g1, g2, g3, g4, g5, g6, -⟩ := rarCells Bt
        go_region_held3 (fun w' => (Ar w' p q t ∧ Rar w' p2 q2 t ∧ Fr [] w w') ∧ w'.cell? ⟨p2, 0, none⟩ = some (.slice (some ⟨q2, 0, none⟩) t.l.length cp) ∧ w'.cell? ⟨p2, 1, none⟩ = some (.int .i64 t.n) ∧ w'.cell? ⟨p2, 2, none⟩ = some (.int .i64 t.a.kind) ∧ w'.cell? ⟨p2, 3, none⟩ = some (.int .i64 t.a.at_) ∧ w'.cell? ⟨p2, 4, none⟩ = some (.int .i64 t.a.old) ∧ w'.cell? ⟨p2, 5, none⟩ = some (.int .i64 t.a.new) ∧ w'.cell? ⟨p2, 6, none⟩ = some (.bool t.a.ok))
          ((first | exact ⟨⟨At.drew, rarDrew Bt, Gt.drew⟩, g0, g1, g2, g3, g4, g5, g6⟩ | assumption | exact kept28 (by assumption) (by assumption)))
          ((first | (go_at_call 24; have HH := accesses_any _ p q t (h28a (by assumption)); (with_reducible refine HH.mono ?_); clear HH; rintro e w' ⟨rfl, rfl⟩) | (go_at_call 25; have HH := last_of _ p q t t.a.kind t.a.at_ t.a.old t.a.new t.a.ok (h28a (by assumption)) rfl; (with_reducible refine HH.mono ?_); clear HH; rintro e w' ⟨rfl, F'⟩) | (go_at_call 26; have HH := len_any _ p q t (h28a (by assumption)); (with_reducible refine HH.mono ?_); clear HH; rintro e w' ⟨rfl, rfl⟩)))
        clear At Bt Gt g0 g1 g2 g3 g4 g5 g6 hcp
        have At := h28a (by assumption : (Ar _ p q t ∧ Rar _ p2 q2 t ∧ Fr [] w _) ∧ _)
        have Bt := h28b (by assumption : (Ar _ p q t ∧ Rar _ p2 q2 t ∧ Fr [] w _) ∧ _)
        have Gt := h28c (by assumption : (Ar _ p q t ∧ Rar _ p2 q2 t ∧ Fr [] w _) ∧ _)
        go_wp2_with fail
        go_loopw [9] (PkAt w p q p2 q2 t) (fun v _ => t.l.length - (intOf v).toNat)
        case atStart => exact ⟨0, Nat.zero_le _, rfl, At, Bt, Gt⟩
        case round =>
          obtain ⟨k, hk, rfl, Ak, Bk, Gk⟩ := hrel
          clear At Bt Gt
          obtain ⟨cq, hcq, g0, -, -, -, -, -, -, gc⟩ := rarCells Bk
          have lk := Bk.hi
          by_cases hkl : k < t.l.length
          · have gk := gc k hkl
            have HP := Lib.hid (peek_at hkl)
            generalize nth t.l k = y at *
            clear gc
            go_wp2_with fail
            go_region_held3 (fun w' => (Ar w' p q t ∧ Rar w' p2 q2 t ∧ Fr [] w w') ∧ w'.cell? ⟨p2, 0, none⟩ = some (.slice (some ⟨q2, 0, none⟩) t.l.length cq) ∧ w'.cell? ⟨q2, k, none⟩ = some (.int .i64 y))
              ((first | exact ⟨⟨Ak.drew, rarDrew Bk, Gk.drew⟩, g0, gk⟩ | assumption))
              ((first | (go_at_call 20; have HH := peek_of _ p q t k y (h28a (by assumption)) HP.out; (with_reducible refine HH.mono ?_); clear HH; rintro e w' ⟨rfl, rfl⟩)))
            clear Ak Bk Gk g0 gk
            have At := h28a (by assumption : (Ar _ p q t ∧ Rar _ p2 q2 t ∧ Fr [] w _) ∧ _)
            have Bt := h28b (by assumption : (Ar _ p q t ∧ Rar _ p2 q2 t ∧ Fr [] w _) ∧ _)
            have Gt := h28c (by assumption : (Ar _ p q t ∧ Rar _ p2 q2 t ∧ Fr [] w _) ∧ _)
            go_wp2_with fail
            go_roundw
            case rel => exact ⟨k + 1, by omega, by go_num, At, Bt, Gt⟩
            case measure => simp [intOf]; omega
          · clear gc
            go_wp2_with fail
            go_roundw
            case rel => exact ⟨m + 1, t, by omega, by go_num, Ak, Bk, ht, Gk⟩
            case measure => simp [intOf]; omega
      by_cases c_store : z0 = 1
      · subst c_store
        go_wp2_with fail
        have L := A.lt
        have L' := B.lt
        obtain ⟨c0, c1, c2, c3⟩ := cells4 (Go.heap_alloc_new wr (.cells #[.int .i64 1, .int .i64 z1, .int .i64 z2, .int .i64 z3] 29))
        have nb1 : wr.heap.size ∉ [p, q] := by simp; omega
        have nb2 : wr.heap.size ∉ [p2, q2] := by simp; omega
        have As := A.alloc (.cells #[.int .i64 1, .int .i64 z1, .int .i64 z2, .int .i64 z3] 29)
        have Bs := rarAlloc B (.cells #[.int .i64 1, .int .i64 z1, .int .i64 z2, .int .i64 z3] 29)
        have Gs := G.alloc (.cells #[.int .i64 1, .int .i64 z1, .int .i64 z2, .int .i64 z3] 29)
        clear A B G d0 d1 d2 d3 L L'
        generalize wr.alloc (.cells #[.int .i64 1, .int .i64 z1, .int .i64 z2, .int .i64 z3] 29) = ws at *
        generalize wr.heap.size = bs at *
        refine (store_any _ p q s z1 z2 As).mono ?_; rintro e w5 ⟨rfl, A5, F5⟩
        have F5 : Fr [p, q] ws w5 := F5.mono (by simp)
        have B5 := Bs.kept F5 np nq
        have G5 := Gs.own2 F5 hp hq
        obtain ⟨e1, e2, e3⟩ := cells3_kept ⟨c1, c2, c3⟩ F5 nb1
        clear As Bs Gs F5 c0 c1 c2 c3
        go_wp2_with fail
        refine (Ref.store_any _ p2 q2 s z1 z2 B5).mono ?_; rintro e w6 ⟨rfl, Bt, F6⟩
        have F6 : Fr [p2, q2] w5 w6 := F6.mono (by simp)
        have At := A5.kept F6 mp mq
        have Gt := G5.own2 F6 hp2w hq2w
        clear A5 B5 G5 F6 e1 e2 e3
        have ht : ((s.store z1 z2)).l.length = n := by rw [show (s.store z1 z2).l.length = (s.poke z1 z2).l.length from rfl, length_pk]; exact hs
        generalize (s.store z1 z2) = t at *
        go_wp2_with fail
        obtain ⟨cp, hcp, g0, g1, g2, g3, g4, g5, g6, -⟩ := rarCells Bt
        go_region_held3 (fun w' => (Ar w' p q t ∧ Rar w' p2 q2 t ∧ Fr [] w w') ∧ w'.cell? ⟨p2, 0, none⟩ = some (.slice (some ⟨q2, 0, none⟩) t.l.length cp) ∧ w'.cell? ⟨p2, 1, none⟩ = some (.int .i64 t.n) ∧ w'.cell? ⟨p2, 2, none⟩ = some (.int .i64 t.a.kind) ∧ w'.cell? ⟨p2, 3, none⟩ = some (.int .i64 t.a.at_) ∧ w'.cell? ⟨p2, 4, none⟩ = some (.int .i64 t.a.old) ∧ w'.cell? ⟨p2, 5, none⟩ = some (.int .i64 t.a.new) ∧ w'.cell? ⟨p2, 6, none⟩ = some (.bool t.a.ok))
          ((first | exact ⟨⟨At.drew, rarDrew Bt, Gt.drew⟩, g0, g1, g2, g3, g4, g5, g6⟩ | assumption | exact kept28 (by assumption) (by assumption)))
          ((first | (go_at_call 24; have HH := accesses_any _ p q t (h28a (by assumption)); (with_reducible refine HH.mono ?_); clear HH; rintro e w' ⟨rfl, rfl⟩) | (go_at_call 25; have HH := last_of _ p q t t.a.kind t.a.at_ t.a.old t.a.new t.a.ok (h28a (by assumption)) rfl; (with_reducible refine HH.mono ?_); clear HH; rintro e w' ⟨rfl, F'⟩) | (go_at_call 26; have HH := len_any _ p q t (h28a (by assumption)); (with_reducible refine HH.mono ?_); clear HH; rintro e w' ⟨rfl, rfl⟩)))
        clear At Bt Gt g0 g1 g2 g3 g4 g5 g6 hcp
        have At := h28a (by assumption : (Ar _ p q t ∧ Rar _ p2 q2 t ∧ Fr [] w _) ∧ _)
        have Bt := h28b (by assumption : (Ar _ p q t ∧ Rar _ p2 q2 t ∧ Fr [] w _) ∧ _)
        have Gt := h28c (by assumption : (Ar _ p q t ∧ Rar _ p2 q2 t ∧ Fr [] w _) ∧ _)
        go_wp2_with fail
        go_loopw [9] (PkAt w p q p2 q2 t) (fun v _ => t.l.length - (intOf v).toNat)
        case atStart => exact ⟨0, Nat.zero_le _, rfl, At, Bt, Gt⟩
        case round =>
          obtain ⟨k, hk, rfl, Ak, Bk, Gk⟩ := hrel
          clear At Bt Gt
          obtain ⟨cq, hcq, g0, -, -, -, -, -, -, gc⟩ := rarCells Bk
          have lk := Bk.hi
          by_cases hkl : k < t.l.length
          · have gk := gc k hkl
            have HP := Lib.hid (peek_at hkl)
            generalize nth t.l k = y at *
            clear gc
            go_wp2_with fail
            go_region_held3 (fun w' => (Ar w' p q t ∧ Rar w' p2 q2 t ∧ Fr [] w w') ∧ w'.cell? ⟨p2, 0, none⟩ = some (.slice (some ⟨q2, 0, none⟩) t.l.length cq) ∧ w'.cell? ⟨q2, k, none⟩ = some (.int .i64 y))
              ((first | exact ⟨⟨Ak.drew, rarDrew Bk, Gk.drew⟩, g0, gk⟩ | assumption))
              ((first | (go_at_call 20; have HH := peek_of _ p q t k y (h28a (by assumption)) HP.out; (with_reducible refine HH.mono ?_); clear HH; rintro e w' ⟨rfl, rfl⟩)))
            clear Ak Bk Gk g0 gk
            have At := h28a (by assumption : (Ar _ p q t ∧ Rar _ p2 q2 t ∧ Fr [] w _) ∧ _)
            have Bt := h28b (by assumption : (Ar _ p q t ∧ Rar _ p2 q2 t ∧ Fr [] w _) ∧ _)
            have Gt := h28c (by assumption : (Ar _ p q t ∧ Rar _ p2 q2 t ∧ Fr [] w _) ∧ _)
            go_wp2_with fail
            go_roundw
            case rel => exact ⟨k + 1, by omega, by go_num, At, Bt, Gt⟩
            case measure => simp [intOf]; omega
          · clear gc
            go_wp2_with fail
            go_roundw
            case rel => exact ⟨m + 1, t, by omega, by go_num, Ak, Bk, ht, Gk⟩
            case measure => simp [intOf]; omega
      by_cases c_swap : z0 = 2
      · subst c_swap
        go_wp2_with fail
        have L := A.lt
        have L' := B.lt
        obtain ⟨c0, c1, c2, c3⟩ := cells4 (Go.heap_alloc_new wr (.cells #[.int .i64 2, .int .i64 z1, .int .i64 z2, .int .i64 z3] 29))
        have nb1 : wr.heap.size ∉ [p, q] := by simp; omega
        have nb2 : wr.heap.size ∉ [p2, q2] := by simp; omega
        have As := A.alloc (.cells #[.int .i64 2, .int .i64 z1, .int .i64 z2, .int .i64 z3] 29)
        have Bs := rarAlloc B (.cells #[.int .i64 2, .int .i64 z1, .int .i64 z2, .int .i64 z3] 29)
        have Gs := G.alloc (.cells #[.int .i64 2, .int .i64 z1, .int .i64 z2, .int .i64 z3] 29)
        clear A B G d0 d1 d2 d3 L L'
        generalize wr.alloc (.cells #[.int .i64 2, .int .i64 z1, .int .i64 z2, .int .i64 z3] 29) = ws at *
        generalize wr.heap.size = bs at *
        have Ad := As.drew
        have Bd := rarDrew Bs
        have Gd := Gs.drew
        clear As Bs Gs
        go_region_held3 (fun w' => w'.cell? ⟨bs, 1, none⟩ = some (.int .i64 z1) ∧ w'.cell? ⟨bs, 2, none⟩ = some (.int .i64 z2) ∧ w'.cell? ⟨bs, 3, none⟩ = some (.int .i64 z3))
          ((first | exact ⟨c1, c2, c3⟩ | assumption | exact cells3_kept (by assumption) (by assumption) (by assumption)))
          ((first | (go_at_call 16; have HH := swap_any _ p q s z1 z2 z3 Ad; (with_reducible refine HH.mono ?_); clear HH; rintro e w' ⟨rfl, A', F'⟩) | (go_at_call 17; have HH := Ref.swap_any _ p2 q2 s z1 z2 z3 (Bd.kept (S := [p, q]) (by assumption) np nq); (with_reducible refine HH.mono ?_); clear HH; rintro e w' ⟨rfl, B', F'⟩)))
        have At := Ar.kept (by assumption : Ar _ p q (s.swap z1 z2 z3)) (by assumption : Fr [p2, q2] _ _) mp mq
        have Bt := (by assumption : Rar _ p2 q2 (s.swap z1 z2 z3))
        have Gt := (Gd.own2 (by assumption : Fr [p, q] _ _) hp hq).own2 (by assumption : Fr [p2, q2] _ _) hp2w hq2w
        clear Ad Bd Gd c0 c1 c2 c3
        have ht : ((s.swap z1 z2 z3)).l.length = n := by rw [length_sw]; exact hs
        generalize (s.swap z1 z2 z3) = t at *
        go_wp2_with fail
        obtain ⟨cp, hcp, g0, g1, g2, g3, g4, g5, g6, -⟩ := rarCells Bt
        go_region_held3 (fun w' => (Ar w' p q t ∧ Rar w' p2 q2 t ∧ Fr [] w w') ∧ w'.cell? ⟨p2, 0, none⟩ = some (.slice (some ⟨q2, 0, none⟩) t.l.length cp) ∧ w'.cell? ⟨p2, 1, none⟩ = some (.int .i64 t.n) ∧ w'.cell? ⟨p2, 2, none⟩ = some (.int .i64 t.a.kind) ∧ w'.cell? ⟨p2, 3, none⟩ = some (.int .i64 t.a.at_) ∧ w'.cell? ⟨p2, 4, none⟩ = some (.int .i64 t.a.old) ∧ w'.cell? ⟨p2, 5, none⟩ = some (.int .i64 t.a.new) ∧ w'.cell? ⟨p2, 6, none⟩ = some (.bool t.a.ok))
          ((first | exact ⟨⟨At.drew, rarDrew Bt, Gt.drew⟩, g0, g1, g2, g3, g4, g5, g6⟩ | assumption | exact kept28 (by assumption) (by assumption)))
          ((first | (go_at_call 24; have HH := accesses_any _ p q t (h28a (by assumption)); (with_reducible refine HH.mono ?_); clear HH; rintro e w' ⟨rfl, rfl⟩) | (go_at_call 25; have HH := last_of _ p q t t.a.kind t.a.at_ t.a.old t.a.new t.a.ok (h28a (by assumption)) rfl; (with_reducible refine HH.mono ?_); clear HH; rintro e w' ⟨rfl, F'⟩) | (go_at_call 26; have HH := len_any _ p q t (h28a (by assumption)); (with_reducible refine HH.mono ?_); clear HH; rintro e w' ⟨rfl, rfl⟩)))
        clear At Bt Gt g0 g1 g2 g3 g4 g5 g6 hcp
        have At := h28a (by assumption : (Ar _ p q t ∧ Rar _ p2 q2 t ∧ Fr [] w _) ∧ _)
        have Bt := h28b (by assumption : (Ar _ p q t ∧ Rar _ p2 q2 t ∧ Fr [] w _) ∧ _)
        have Gt := h28c (by assumption : (Ar _ p q t ∧ Rar _ p2 q2 t ∧ Fr [] w _) ∧ _)
        go_wp2_with fail
        go_loopw [9] (PkAt w p q p2 q2 t) (fun v _ => t.l.length - (intOf v).toNat)
        case atStart => exact ⟨0, Nat.zero_le _, rfl, At, Bt, Gt⟩
        case round =>
          obtain ⟨k, hk, rfl, Ak, Bk, Gk⟩ := hrel
          clear At Bt Gt
          obtain ⟨cq, hcq, g0, -, -, -, -, -, -, gc⟩ := rarCells Bk
          have lk := Bk.hi
          by_cases hkl : k < t.l.length
          · have gk := gc k hkl
            have HP := Lib.hid (peek_at hkl)
            generalize nth t.l k = y at *
            clear gc
            go_wp2_with fail
            go_region_held3 (fun w' => (Ar w' p q t ∧ Rar w' p2 q2 t ∧ Fr [] w w') ∧ w'.cell? ⟨p2, 0, none⟩ = some (.slice (some ⟨q2, 0, none⟩) t.l.length cq) ∧ w'.cell? ⟨q2, k, none⟩ = some (.int .i64 y))
              ((first | exact ⟨⟨Ak.drew, rarDrew Bk, Gk.drew⟩, g0, gk⟩ | assumption))
              ((first | (go_at_call 20; have HH := peek_of _ p q t k y (h28a (by assumption)) HP.out; (with_reducible refine HH.mono ?_); clear HH; rintro e w' ⟨rfl, rfl⟩)))
            clear Ak Bk Gk g0 gk
            have At := h28a (by assumption : (Ar _ p q t ∧ Rar _ p2 q2 t ∧ Fr [] w _) ∧ _)
            have Bt := h28b (by assumption : (Ar _ p q t ∧ Rar _ p2 q2 t ∧ Fr [] w _) ∧ _)
            have Gt := h28c (by assumption : (Ar _ p q t ∧ Rar _ p2 q2 t ∧ Fr [] w _) ∧ _)
            go_wp2_with fail
            go_roundw
            case rel => exact ⟨k + 1, by omega, by go_num, At, Bt, Gt⟩
            case measure => simp [intOf]; omega
          · clear gc
            go_wp2_with fail
            go_roundw
            case rel => exact ⟨m + 1, t, by omega, by go_num, Ak, Bk, ht, Gk⟩
            case measure => simp [intOf]; omega
      by_cases c_add : z0 = 3
      · subst c_add
        go_wp2_with fail
        have L := A.lt
        have L' := B.lt
        obtain ⟨c0, c1, c2, c3⟩ := cells4 (Go.heap_alloc_new wr (.cells #[.int .i64 3, .int .i64 z1, .int .i64 z2, .int .i64 z3] 29))
        have nb1 : wr.heap.size ∉ [p, q] := by simp; omega
        have nb2 : wr.heap.size ∉ [p2, q2] := by simp; omega
        have As := A.alloc (.cells #[.int .i64 3, .int .i64 z1, .int .i64 z2, .int .i64 z3] 29)
        have Bs := rarAlloc B (.cells #[.int .i64 3, .int .i64 z1, .int .i64 z2, .int .i64 z3] 29)
        have Gs := G.alloc (.cells #[.int .i64 3, .int .i64 z1, .int .i64 z2, .int .i64 z3] 29)
        clear A B G d0 d1 d2 d3 L L'
        generalize wr.alloc (.cells #[.int .i64 3, .int .i64 z1, .int .i64 z2, .int .i64 z3] 29) = ws at *
        generalize wr.heap.size = bs at *
        have Ad := As.drew
        have Bd := rarDrew Bs
        have Gd := Gs.drew
        clear As Bs Gs
        go_region_held3 (fun w' => w'.cell? ⟨bs, 1, none⟩ = some (.int .i64 z1) ∧ w'.cell? ⟨bs, 2, none⟩ = some (.int .i64 z2) ∧ w'.cell? ⟨bs, 3, none⟩ = some (.int .i64 z3))
          ((first | exact ⟨c1, c2, c3⟩ | assumption | exact cells3_kept (by assumption) (by assumption) (by assumption)))
          ((first | (go_at_call 18; have HH := add_any _ p q s z1 z2 Ad; (with_reducible refine HH.mono ?_); clear HH; rintro e w' ⟨rfl, A', F'⟩) | (go_at_call 19; have HH := Ref.add_any _ p2 q2 s z1 z2 (Bd.kept (S := [p, q]) (by assumption) np nq); (with_reducible refine HH.mono ?_); clear HH; rintro e w' ⟨rfl, B', F'⟩)))
        have At := Ar.kept (by assumption : Ar _ p q (s.add z1 z2)) (by assumption : Fr [p2, q2] _ _) mp mq
        have Bt := (by assumption : Rar _ p2 q2 (s.add z1 z2))
        have Gt := (Gd.own2 (by assumption : Fr [p, q] _ _) hp hq).own2 (by assumption : Fr [p2, q2] _ _) hp2w hq2w
        clear Ad Bd Gd c0 c1 c2 c3
        have ht : ((s.add z1 z2)).l.length = n := by rw [show (s.add z1 z2).l.length = (s.poke z1 (wrap64 (peek s.l z1 + z2))).l.length from rfl, length_pk]; exact hs
        generalize (s.add z1 z2) = t at *
        go_wp2_with fail
        obtain ⟨cp, hcp, g0, g1, g2, g3, g4, g5, g6, -⟩ := rarCells Bt
        go_region_held3 (fun w' => (Ar w' p q t ∧ Rar w' p2 q2 t ∧ Fr [] w w') ∧ w'.cell? ⟨p2, 0, none⟩ = some (.slice (some ⟨q2, 0, none⟩) t.l.length cp) ∧ w'.cell? ⟨p2, 1, none⟩ = some (.int .i64 t.n) ∧ w'.cell? ⟨p2, 2, none⟩ = some (.int .i64 t.a.kind) ∧ w'.cell? ⟨p2, 3, none⟩ = some (.int .i64 t.a.at_) ∧ w'.cell? ⟨p2, 4, none⟩ = some (.int .i64 t.a.old) ∧ w'.cell? ⟨p2, 5, none⟩ = some (.int .i64 t.a.new) ∧ w'.cell? ⟨p2, 6, none⟩ = some (.bool t.a.ok))
          ((first | exact ⟨⟨At.drew, rarDrew Bt, Gt.drew⟩, g0, g1, g2, g3, g4, g5, g6⟩ | assumption | exact kept28 (by assumption) (by assumption)))
          ((first | (go_at_call 24; have HH := accesses_any _ p q t (h28a (by assumption)); (with_reducible refine HH.mono ?_); clear HH; rintro e w' ⟨rfl, rfl⟩) | (go_at_call 25; have HH := last_of _ p q t t.a.kind t.a.at_ t.a.old t.a.new t.a.ok (h28a (by assumption)) rfl; (with_reducible refine HH.mono ?_); clear HH; rintro e w' ⟨rfl, F'⟩) | (go_at_call 26; have HH := len_any _ p q t (h28a (by assumption)); (with_reducible refine HH.mono ?_); clear HH; rintro e w' ⟨rfl, rfl⟩)))
        clear At Bt Gt g0 g1 g2 g3 g4 g5 g6 hcp
        have At := h28a (by assumption : (Ar _ p q t ∧ Rar _ p2 q2 t ∧ Fr [] w _) ∧ _)
        have Bt := h28b (by assumption : (Ar _ p q t ∧ Rar _ p2 q2 t ∧ Fr [] w _) ∧ _)
        have Gt := h28c (by assumption : (Ar _ p q t ∧ Rar _ p2 q2 t ∧ Fr [] w _) ∧ _)
        go_wp2_with fail
        go_loopw [9] (PkAt w p q p2 q2 t) (fun v _ => t.l.length - (intOf v).toNat)
        case atStart => exact ⟨0, Nat.zero_le _, rfl, At, Bt, Gt⟩
        case round =>
          obtain ⟨k, hk, rfl, Ak, Bk, Gk⟩ := hrel
          clear At Bt Gt
          obtain ⟨cq, hcq, g0, -, -, -, -, -, -, gc⟩ := rarCells Bk
          have lk := Bk.hi
          by_cases hkl : k < t.l.length
          · have gk := gc k hkl
            have HP := Lib.hid (peek_at hkl)
            generalize nth t.l k = y at *
            clear gc
            go_wp2_with fail
            go_region_held3 (fun w' => (Ar w' p q t ∧ Rar w' p2 q2 t ∧ Fr [] w w') ∧ w'.cell? ⟨p2, 0, none⟩ = some (.slice (some ⟨q2, 0, none⟩) t.l.length cq) ∧ w'.cell? ⟨q2, k, none⟩ = some (.int .i64 y))
              ((first | exact ⟨⟨Ak.drew, rarDrew Bk, Gk.drew⟩, g0, gk⟩ | assumption))
              ((first | (go_at_call 20; have HH := peek_of _ p q t k y (h28a (by assumption)) HP.out; (with_reducible refine HH.mono ?_); clear HH; rintro e w' ⟨rfl, rfl⟩)))
            clear Ak Bk Gk g0 gk
            have At := h28a (by assumption : (Ar _ p q t ∧ Rar _ p2 q2 t ∧ Fr [] w _) ∧ _)
            have Bt := h28b (by assumption : (Ar _ p q t ∧ Rar _ p2 q2 t ∧ Fr [] w _) ∧ _)
            have Gt := h28c (by assumption : (Ar _ p q t ∧ Rar _ p2 q2 t ∧ Fr [] w _) ∧ _)
            go_wp2_with fail
            go_roundw
            case rel => exact ⟨k + 1, by omega, by go_num, At, Bt, Gt⟩
            case measure => simp [intOf]; omega
          · clear gc
            go_wp2_with fail
            go_roundw
            case rel => exact ⟨m + 1, t, by omega, by go_num, Ak, Bk, ht, Gk⟩
            case measure => simp [intOf]; omega
      by_cases c_peek : z0 = 4
      · subst c_peek
        go_wp2_with fail
        have L := A.lt
        have L' := B.lt
        obtain ⟨c0, c1, c2, c3⟩ := cells4 (Go.heap_alloc_new wr (.cells #[.int .i64 4, .int .i64 z1, .int .i64 z2, .int .i64 z3] 29))
        have nb1 : wr.heap.size ∉ [p, q] := by simp; omega
        have nb2 : wr.heap.size ∉ [p2, q2] := by simp; omega
        have As := A.alloc (.cells #[.int .i64 4, .int .i64 z1, .int .i64 z2, .int .i64 z3] 29)
        have Bs := rarAlloc B (.cells #[.int .i64 4, .int .i64 z1, .int .i64 z2, .int .i64 z3] 29)
        have Gs := G.alloc (.cells #[.int .i64 4, .int .i64 z1, .int .i64 z2, .int .i64 z3] 29)
        clear A B G d0 d1 d2 d3 L L'
        generalize wr.alloc (.cells #[.int .i64 4, .int .i64 z1, .int .i64 z2, .int .i64 z3] 29) = ws at *
        generalize wr.heap.size = bs at *
        have Ad := As.drew
        have Bd := rarDrew Bs
        have Gd := Gs.drew
        clear As Bs Gs
        go_region_held3 (fun w' => w'.cell? ⟨bs, 1, none⟩ = some (.int .i64 z1) ∧ w'.cell? ⟨bs, 2, none⟩ = some (.int .i64 z2) ∧ w'.cell? ⟨bs, 3, none⟩ = some (.int .i64 z3))
          ((first | exact ⟨c1, c2, c3⟩ | assumption | exact cells3_kept (by assumption) (by assumption) (by assumption)))
          ((first | (go_at_call 20; have HH := peek_any _ p q s z1 Ad; (with_reducible refine HH.mono ?_); clear HH; rintro e w' ⟨rfl, rfl⟩) | (go_at_call 21; have HH := Ref.peek_any _ p2 q2 s z1 Bd; (with_reducible refine HH.mono ?_); clear HH; rintro e w' ⟨rfl, rfl⟩)))
        have At := Ad
        have Bt := Bd
        have Gt := Gd
        clear Ad Bd Gd c0 c1 c2 c3
        have ht : (s).l.length = n := by exact hs
        generalize s = t at *
        go_wp2_with fail
        obtain ⟨cp, hcp, g0, g1, g2, g3, g4, g5, g6, -⟩ := rarCells Bt
        go_region_held3 (fun w' => (Ar w' p q t ∧ Rar w' p2 q2 t ∧ Fr [] w w') ∧ w'.cell? ⟨p2, 0, none⟩ = some (.slice (some ⟨q2, 0, none⟩) t.l.length cp) ∧ w'.cell? ⟨p2, 1, none⟩ = some (.int .i64 t.n) ∧ w'.cell? ⟨p2, 2, none⟩ = some (.int .i64 t.a.kind) ∧ w'.cell? ⟨p2, 3, none⟩ = some (.int .i64 t.a.at_) ∧ w'.cell? ⟨p2, 4, none⟩ = some (.int .i64 t.a.old) ∧ w'.cell? ⟨p2, 5, none⟩ = some (.int .i64 t.a.new) ∧ w'.cell? ⟨p2, 6, none⟩ = some (.bool t.a.ok))
          ((first | exact ⟨⟨At.drew, rarDrew Bt, Gt.drew⟩, g0, g1, g2, g3, g4, g5, g6⟩ | assumption | exact kept28 (by assumption) (by assumption)))
          ((first | (go_at_call 24; have HH := accesses_any _ p q t (h28a (by assumption)); (with_reducible refine HH.mono ?_); clear HH; rintro e w' ⟨rfl, rfl⟩) | (go_at_call 25; have HH := last_of _ p q t t.a.kind t.a.at_ t.a.old t.a.new t.a.ok (h28a (by assumption)) rfl; (with_reducible refine HH.mono ?_); clear HH; rintro e w' ⟨rfl, F'⟩) | (go_at_call 26; have HH := len_any _ p q t (h28a (by assumption)); (with_reducible refine HH.mono ?_); clear HH; rintro e w' ⟨rfl, rfl⟩)))
        clear At Bt Gt g0 g1 g2 g3 g4 g5 g6 hcp
        have At := h28a (by assumption : (Ar _ p q t ∧ Rar _ p2 q2 t ∧ Fr [] w _) ∧ _)
        have Bt := h28b (by assumption : (Ar _ p q t ∧ Rar _ p2 q2 t ∧ Fr [] w _) ∧ _)
        have Gt := h28c (by assumption : (Ar _ p q t ∧ Rar _ p2 q2 t ∧ Fr [] w _) ∧ _)
        go_wp2_with fail
        go_loopw [9] (PkAt w p q p2 q2 t) (fun v _ => t.l.length - (intOf v).toNat)
        case atStart => exact ⟨0, Nat.zero_le _, rfl, At, Bt, Gt⟩
        case round =>
          obtain ⟨k, hk, rfl, Ak, Bk, Gk⟩ := hrel
          clear At Bt Gt
          obtain ⟨cq, hcq, g0, -, -, -, -, -, -, gc⟩ := rarCells Bk
          have lk := Bk.hi
          by_cases hkl : k < t.l.length
          · have gk := gc k hkl
            have HP := Lib.hid (peek_at hkl)
            generalize nth t.l k = y at *
            clear gc
            go_wp2_with fail
            go_region_held3 (fun w' => (Ar w' p q t ∧ Rar w' p2 q2 t ∧ Fr [] w w') ∧ w'.cell? ⟨p2, 0, none⟩ = some (.slice (some ⟨q2, 0, none⟩) t.l.length cq) ∧ w'.cell? ⟨q2, k, none⟩ = some (.int .i64 y))
              ((first | exact ⟨⟨Ak.drew, rarDrew Bk, Gk.drew⟩, g0, gk⟩ | assumption))
              ((first | (go_at_call 20; have HH := peek_of _ p q t k y (h28a (by assumption)) HP.out; (with_reducible refine HH.mono ?_); clear HH; rintro e w' ⟨rfl, rfl⟩)))
            clear Ak Bk Gk g0 gk
            have At := h28a (by assumption : (Ar _ p q t ∧ Rar _ p2 q2 t ∧ Fr [] w _) ∧ _)
            have Bt := h28b (by assumption : (Ar _ p q t ∧ Rar _ p2 q2 t ∧ Fr [] w _) ∧ _)
            have Gt := h28c (by assumption : (Ar _ p q t ∧ Rar _ p2 q2 t ∧ Fr [] w _) ∧ _)
            go_wp2_with fail
            go_roundw
            case rel => exact ⟨k + 1, by omega, by go_num, At, Bt, Gt⟩
            case measure => simp [intOf]; omega
          · clear gc
            go_wp2_with fail
            go_roundw
            case rel => exact ⟨m + 1, t, by omega, by go_num, Ak, Bk, ht, Gk⟩
            case measure => simp [intOf]; omega
      · skip
        go_wp2_with fail
        have L := A.lt
        have L' := B.lt
        obtain ⟨c0, c1, c2, c3⟩ := cells4 (Go.heap_alloc_new wr (.cells #[.int .i64 z0, .int .i64 z1, .int .i64 z2, .int .i64 z3] 29))
        have nb1 : wr.heap.size ∉ [p, q] := by simp; omega
        have nb2 : wr.heap.size ∉ [p2, q2] := by simp; omega
        have As := A.alloc (.cells #[.int .i64 z0, .int .i64 z1, .int .i64 z2, .int .i64 z3] 29)
        have Bs := rarAlloc B (.cells #[.int .i64 z0, .int .i64 z1, .int .i64 z2, .int .i64 z3] 29)
        have Gs := G.alloc (.cells #[.int .i64 z0, .int .i64 z1, .int .i64 z2, .int .i64 z3] 29)
        clear A B G d0 d1 d2 d3 L L'
        generalize wr.alloc (.cells #[.int .i64 z0, .int .i64 z1, .int .i64 z2, .int .i64 z3] 29) = ws at *
        generalize wr.heap.size = bs at *
        refine (poke_any _ p q s z1 z2 As).mono ?_; rintro e w5 ⟨rfl, A5, F5⟩
        have F5 : Fr [p, q] ws w5 := F5.mono (by simp)
        have B5 := Bs.kept F5 np nq
        have G5 := Gs.own2 F5 hp hq
        obtain ⟨e1, e2, e3⟩ := cells3_kept ⟨c1, c2, c3⟩ F5 nb1
        clear As Bs Gs F5 c0 c1 c2 c3
        go_wp2_with fail
        refine (Ref.poke_any _ p2 q2 s z1 z2 B5).mono ?_; rintro e w6 ⟨rfl, Bt, F6⟩
        have F6 : Fr [p2, q2] w5 w6 := F6.mono (by simp)
        have At := A5.kept F6 mp mq
        have Gt := G5.own2 F6 hp2w hq2w
        clear A5 B5 G5 F6 e1 e2 e3
        have ht : ((s.poke z1 z2)).l.length = n := by rw [length_pk]; exact hs
        generalize (s.poke z1 z2) = t at *
        go_wp2_with fail
        obtain ⟨cp, hcp, g0, g1, g2, g3, g4, g5, g6, -⟩ := rarCells Bt
        go_region_held3 (fun w' => (Ar w' p q t ∧ Rar w' p2 q2 t ∧ Fr [] w w') ∧ w'.cell? ⟨p2, 0, none⟩ = some (.slice (some ⟨q2, 0, none⟩) t.l.length cp) ∧ w'.cell? ⟨p2, 1, none⟩ = some (.int .i64 t.n) ∧ w'.cell? ⟨p2, 2, none⟩ = some (.int .i64 t.a.kind) ∧ w'.cell? ⟨p2, 3, none⟩ = some (.int .i64 t.a.at_) ∧ w'.cell? ⟨p2, 4, none⟩ = some (.int .i64 t.a.old) ∧ w'.cell? ⟨p2, 5, none⟩ = some (.int .i64 t.a.new) ∧ w'.cell? ⟨p2, 6, none⟩ = some (.bool t.a.ok))
          ((first | exact ⟨⟨At.drew, rarDrew Bt, Gt.drew⟩, g0, g1, g2, g3, g4, g5, g6⟩ | assumption | exact kept28 (by assumption) (by assumption)))
          ((first | (go_at_call 24; have HH := accesses_any _ p q t (h28a (by assumption)); (with_reducible refine HH.mono ?_); clear HH; rintro e w' ⟨rfl, rfl⟩) | (go_at_call 25; have HH := last_of _ p q t t.a.kind t.a.at_ t.a.old t.a.new t.a.ok (h28a (by assumption)) rfl; (with_reducible refine HH.mono ?_); clear HH; rintro e w' ⟨rfl, F'⟩) | (go_at_call 26; have HH := len_any _ p q t (h28a (by assumption)); (with_reducible refine HH.mono ?_); clear HH; rintro e w' ⟨rfl, rfl⟩)))
        clear At Bt Gt g0 g1 g2 g3 g4 g5 g6 hcp
        have At := h28a (by assumption : (Ar _ p q t ∧ Rar _ p2 q2 t ∧ Fr [] w _) ∧ _)
        have Bt := h28b (by assumption : (Ar _ p q t ∧ Rar _ p2 q2 t ∧ Fr [] w _) ∧ _)
        have Gt := h28c (by assumption : (Ar _ p q t ∧ Rar _ p2 q2 t ∧ Fr [] w _) ∧ _)
        go_wp2_with fail
        go_loopw [9] (PkAt w p q p2 q2 t) (fun v _ => t.l.length - (intOf v).toNat)
        case atStart => exact ⟨0, Nat.zero_le _, rfl, At, Bt, Gt⟩
        case round =>
          obtain ⟨k, hk, rfl, Ak, Bk, Gk⟩ := hrel
          clear At Bt Gt
          obtain ⟨cq, hcq, g0, -, -, -, -, -, -, gc⟩ := rarCells Bk
          have lk := Bk.hi
          by_cases hkl : k < t.l.length
          · have gk := gc k hkl
            have HP := Lib.hid (peek_at hkl)
            generalize nth t.l k = y at *
            clear gc
            go_wp2_with fail
            go_region_held3 (fun w' => (Ar w' p q t ∧ Rar w' p2 q2 t ∧ Fr [] w w') ∧ w'.cell? ⟨p2, 0, none⟩ = some (.slice (some ⟨q2, 0, none⟩) t.l.length cq) ∧ w'.cell? ⟨q2, k, none⟩ = some (.int .i64 y))
              ((first | exact ⟨⟨Ak.drew, rarDrew Bk, Gk.drew⟩, g0, gk⟩ | assumption))
              ((first | (go_at_call 20; have HH := peek_of _ p q t k y (h28a (by assumption)) HP.out; (with_reducible refine HH.mono ?_); clear HH; rintro e w' ⟨rfl, rfl⟩)))
            clear Ak Bk Gk g0 gk
            have At := h28a (by assumption : (Ar _ p q t ∧ Rar _ p2 q2 t ∧ Fr [] w _) ∧ _)
            have Bt := h28b (by assumption : (Ar _ p q t ∧ Rar _ p2 q2 t ∧ Fr [] w _) ∧ _)
            have Gt := h28c (by assumption : (Ar _ p q t ∧ Rar _ p2 q2 t ∧ Fr [] w _) ∧ _)
            go_wp2_with fail
            go_roundw
            case rel => exact ⟨k + 1, by omega, by go_num, At, Bt, Gt⟩
            case measure => simp [intOf]; omega
          · clear gc
            go_wp2_with fail
            go_roundw
            case rel => exact ⟨m + 1, t, by omega, by go_num, Ak, Bk, ht, Gk⟩
            case measure => simp [intOf]; omega
    · obtain rfl : m = len := by omega
      clear HZ
      go_wp2
      go_ret
      exact ⟨rfl, G⟩
set_option maxRecDepth 100000 in
theorem plays_true (i : Int) (vz : Value) (len : Nat) (V : Nat → Nat → Value) (w : World) (hI : Law.Recs w 4 vz len V) (hV : ∀ i, i < len → ∀ j, j < 4 → ∃ x : Int, V i j = .int .i64 x) (i0 : -9223372036854775808 ≤ i) (i1 : i ≤ 9223372036854775807) :
    Calls Try.prog 3 #[.int .i64 i, vz] w fun e w' => e = .returned (.bool true) ∧ Fr [] w w' := by
  obtain ⟨va, cap, rfl, hm, hz⟩ := hI
  unfold maxLen at hm
  by_cases hl : len ≤ 60
  · by_cases hi : i ≤ 300
    · have hb := wordsOf_bd i
      refine plays_few i va len cap (wordsOf i) (fun a b => intOf (V a b)) w hi hl hb.1 (by unfold wordsOf; omega) (by unfold wordsOf; omega) ?_
      rcases hz with h | ⟨b, off, h1, h2, h3⟩
      · exact .inl h
      · refine .inr ⟨b, off, h1, h2, fun a ha j hj => ?_⟩
        obtain ⟨x, hx⟩ := hV a ha j hj
        rw [h3 a ha j hj, hx]; rfl
    · clear hz hV
      have hi' : 300 < i := by omega
      have hl' : ¬ 60 < len := by omega
      clear hi
      go_enter Try.func3, Try.ntmps3
      go_wp2_with fail
      refine (known_true _).mono ?_; rintro e w1 ⟨rfl, F1⟩
      go_wp2
      go_ret
      exact ⟨rfl, F1⟩
  · clear hz hV
    have hl' : 60 < len := by omega
    clear hl
    go_enter Try.func3, Try.ntmps3
    go_wp2_with fail
    refine (known_true _).mono ?_; rintro e w1 ⟨rfl, F1⟩
    go_wp2
    go_ret
    exact ⟨rfl, F1⟩
end Go.Proofs.Ytbkjjalagmbchaa.Ar
