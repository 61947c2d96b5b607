/- A chain that is spoilt: the walk of ChainSpoilt. -/
import Derived.Test.YtkdnhaglfbkhfaaKnown7
namespace Go.Proofs.Ytkdnhaglfbkhfaa.Ch
open Go.RowKit Go.Proofs.Ytkdnhaglfbkhfaa.Ar Go.Proofs.Ytkdnhaglfbkhfaa.Mx Go.Proofs.Ytkdnhaglfbkhfaa.Vw
set_option linter.unusedVariables false
set_option linter.unusedSimpArgs false
set_option maxRecDepth 100000
/-- Words, as they were laid: the last one first. -/
def getA (f : Int → Int) : List (Int × Int) → Int → Int
  | [], x => f x
  | (a, v) :: r, x => if x = a then v else getA f r x
def baseC (x : Int) : Int := if x = 2 then 31 else if x = 8 then -1 else if x = 10 then 30 else 0
def nxI (k i : Nat) : Int := (if i + 1 < k then 200 + 100 * (i : Int) + 100 else 0) + (if i % 2 = 1 then 1 else 0)
def ent (k i : Nat) (r : List (Int × Int)) : List (Int × Int) :=
  (100 + 50 * (i : Int) + 12, 2097193 + (i : Int)) :: (100 + 50 * (i : Int) + 11, 7 * (i : Int) + 3) :: (100 + 50 * (i : Int) + 10, 5) :: (100 + 50 * (i : Int) + 2, nxI k i) :: (100 + 50 * (i : Int), 7 * (i : Int)) :: r
def ents (k : Nat) : Nat → List (Int × Int)
  | 0 => []
  | i + 1 => ent k i (ents k i)
def laidL (k : Nat) : List (Int × Int) := (10, 200) :: ents k k
def cks (L : List (Int × Int)) : List (Hd × List Ce) := chunksF (getA baseC L) 2000 3 1
/-- What is spoilt. -/
def spL (k j w : Nat) : List (Int × Int) :=
  if w = 0 then (if j + 1 = k then [(100 + 50 * (j : Int), 7 * (j : Int) - 7), (100 + 50 * (j : Int), 7 * (j : Int) + 7)] else [(100 + 50 * (j : Int), 7 * (j : Int) + 7)])
  else if w = 1 then [(100 + 50 * (j : Int) + 11, 7 * (j : Int) - 1)]
  else if w = 2 then [(100 + 50 * (j : Int) + 11, 7 * (j : Int) + 7)]
  else [(100 + 50 * ((k : Int) - 1) + 2, 200 + 100 * (j : Int))]
theorem sp_is : ∀ k : Fin 6, isL (cks (laidL (k.val + 2))) = true := by decide +kernel
theorem sp_all : ∀ k : Fin 6, (allF (getA baseC (laidL (k.val + 2))) 2000 3 1).length = k.val + 2 ∧ (allF (getA baseC (laidL (k.val + 2))) 2000 3 1)[k.val + 1]? = some (100 + 50 * ((k.val : Int) + 1)) := by decide +kernel
theorem sp_now : ∀ k : Fin 6, (nowL (itsOf (cks (laidL (k.val + 2))))).length = k.val + 2 := by decide +kernel
theorem sp_wf : ∀ k : Fin 6, (itsOf (cks (laidL (k.val + 2)))).all (fun it => (Lit.int .i64 it.k).wf) = true := by decide +kernel
theorem sp_of : ∀ k : Fin 6, ofL (cks (laidL (k.val + 2))) (7 * ((k.val : Int) + 2)) = 100 + 50 * ((k.val : Int) + 1) := by decide +kernel
theorem sp_not : ∀ k : Fin 6, ∀ j : Fin 7, j.val < k.val + 2 → ∀ w : Fin 4, isL (cks (spL (k.val + 2) j.val w.val ++ laidL (k.val + 2))) = decide (w.val = 2 ∧ j.val + 1 = k.val + 2) := by decide +kernel
/-- An arena of 2000 words that holds these. -/
def Holds7 (s : St) (L : List (Int × Int)) : Prop := s.l.length = 2000 ∧ peek s.l = getA baseC L
theorem peek_upd {l : List Int} {i : Int} (v : Int) (h0 : 0 ≤ i) (h1 : i < l.length) (x : Int) : peek (poke l i v) x = if x = i then v else peek l x := by
  obtain ⟨k, rfl⟩ := Int.eq_ofNat_of_zero_le h0
  have hk : k < l.length := by omega
  rw [poke_at v hk]
  unfold peek
  have e1 : isAt (l.set k v) x = isAt l x := by simp [isAt]
  rw [e1]
  cases hx : isAt l x with
  | false =>
    have : x ≠ k := by rintro rfl; rw [isAt_in hk] at hx; cases hx
    simp [this]
  | true =>
    rw [if_pos rfl, if_pos rfl]
    unfold isAt at hx
    simp at hx
    obtain ⟨m, rfl⟩ := Int.eq_ofNat_of_zero_le hx.1
    unfold nth
    by_cases e : m = k
    · subst e; simp [List.getD_eq_getElem?_getD, hk]
    · have e' : ¬ ((m : Int) = (k : Int)) := by omega
      simp [List.getD_eq_getElem?_getD, List.getElem?_set, e', Ne.symm e]
theorem Holds7.poke {s : St} {L : List (Int × Int)} (h : Holds7 s L) (i v : Int) (h0 : 0 ≤ i) (h1 : i < 2000) : Holds7 (s.poke i v) ((i, v) :: L) := by
  refine ⟨by show (Ar.poke s.l i v).length = 2000; rw [length_poke]; exact h.1, ?_⟩
  funext x
  show peek (Ar.poke s.l i v) x = _
  rw [peek_upd v h0 (by rw [h.1]; omega), h.2]
  rfl
theorem holds7_begun : Holds7 (Pl.begun 1 3 2000) [] := by
  obtain ⟨b1, b2, -, -⟩ := Pl.begun_nth (t := 1) (c := 3) (wd := 2000) (by decide) (by decide) (by decide) (by decide)
  refine ⟨b1, ?_⟩
  funext x
  show _ = baseC x
  have hb : ((Pl.begun 1 3 2000).l.length : Int) = 2000 := by rw [b1]; rfl
  rcases isAt_cases (Pl.begun 1 3 2000).l x with ⟨k, rfl, hk, e⟩ | ⟨hx, e⟩
  · rw [peek_at hk, b2 k (by rw [b1] at hk; exact hk)]
    rfl
  · rw [peek_no e]
    rw [hb] at hx
    unfold baseC
    rw [if_neg (by omega), if_neg (by omega), if_neg (by omega)]
theorem Holds7.chunks {s : St} {L : List (Int × Int)} (h : Holds7 s L) : chunksF (peek s.l) s.l.length 3 1 = cks L := by unfold cks; rw [h.1, h.2]
theorem is_7 {s : St} {L : List (Int × Int)} (h : Holds7 s L) (p q : Nat) (w : World) (A : Ar w p q s) : Calls Try.prog 13 #[.agg #[.int .i64 1, .int .i64 3, .int .i64 2000, .int .i64 1000], .pointer (some ⟨p, 0, none⟩)] w fun e w' => e = .returned (.bool (isL (cks L))) ∧ Fr [] w w' := by
  have := is_any 1 2000 1000 3 p q s w (by decide) (by decide) (by decide) (by decide) (by rw [h.1]; decide) (by rw [h.1]; decide) A
  rw [h.chunks] at this; exact this
theorem all_7 {s : St} {L : List (Int × Int)} (h : Holds7 s L) (p q : Nat) (w : World) (A : Ar w p q s) : Calls Try.prog 12 #[.agg #[.int .i64 1, .int .i64 3, .int .i64 2000, .int .i64 1000], .pointer (some ⟨p, 0, none⟩)] w fun e w' => (∃ u, e = .returned u ∧ w'.ownsRow w.heap.size 3 1 u (allF (getA baseC L) 2000 3 1).length ((allF (getA baseC L) 2000 3 1).flatMap fN)) ∧ Fr [] w w' := by
  have := all_any 1 2000 1000 3 p q s w (by decide) (by decide) (by decide) (by decide) (by rw [h.1]; decide) (by rw [h.1]; decide) A
  rw [h.1, h.2] at this; exact this
theorem of_7 {s : St} {L : List (Int × Int)} (h : Holds7 s L) (key : Int) (p q : Nat) (w : World) (A : Ar w p q s) : Calls Try.prog 15 #[.agg #[.int .i64 1, .int .i64 3, .int .i64 2000, .int .i64 1000], .pointer (some ⟨p, 0, none⟩), .int .i64 key] w fun e w' => e = .returned (.int .i64 (ofL (cks L) key)) ∧ Fr [] w w' := by
  have := of_any 1 2000 1000 key 3 p q s w (by decide) (by decide) (by decide) (by decide) (by rw [h.1]; decide) (by rw [h.1]; decide) A
  rw [h.chunks] at this; exact this
theorem now_7 {s : St} {L : List (Int × Int)} (h : Holds7 s L) (hwf : (itsOf (cks L)).all (fun it => (Lit.int .i64 it.k).wf) = true) (p q : Nat) (w : World) (A : Ar w p q s) : Calls Try.prog 14 #[.agg #[.int .i64 1, .int .i64 3, .int .i64 2000, .int .i64 1000], .pointer (some ⟨p, 0, none⟩)] w fun e w' => (∃ u, e = .returned u ∧ w'.ownsRow w.heap.size 43 2 u (nowL (itsOf (cks L))).length ((nowL (itsOf (cks L))).flatMap fP)) ∧ Fr [] w w' := by
  have := now_any 1 2000 1000 3 p q s w (by decide) (by decide) (by decide) (by decide) (by rw [h.1]; decide) (by rw [h.1]; decide) A (by rw [h.chunks]; exact List.all_eq_true.1 hwf)
  rw [h.chunks] at this; exact this
def A7 (w : World) (p q : Nat) (L : List (Int × Int)) : Prop := ∃ s, Ar w p q s ∧ Holds7 s L
theorem A7.kept {w w' : World} {p q : Nat} {L : List (Int × Int)} {S : List Nat} (h : A7 w p q L) (f : Fr S w w') (hp : p ∉ S) (hq : q ∉ S) : A7 w' p q L := by obtain ⟨s, h1, h2⟩ := h; exact ⟨s, h1.kept f hp hq, h2⟩
theorem A7.lt {w : World} {p q : Nat} {L : List (Int × Int)} (h : A7 w p q L) : p < w.heap.size ∧ q < w.heap.size := by obtain ⟨s, h1, h2⟩ := h; exact h1.lt
theorem A7.conv {w : World} {p q : Nat} {L L' : List (Int × Int)} (h : A7 w p q L) (e : L = L') : A7 w p q L' := e ▸ h
theorem poke7 (w : World) (p q : Nat) (L : List (Int × Int)) (i v : Int) (h : A7 w p q L) (h0 : 0 ≤ i) (h1 : i < 2000) :
    Calls Try.prog 7 #[.pointer (some ⟨p, 0, none⟩), .int .i64 i, .int .i64 v] w fun e w' => e = .returned (.tuple #[]) ∧ A7 w' p q ((i, v) :: L) ∧ Fr [q] w w' := by
  obtain ⟨s, hA, hH⟩ := h
  exact (poke_any w p q s i v hA).mono (by rintro e w' ⟨rfl, A2, F2⟩; exact ⟨rfl, ⟨_, A2, hH.poke i v h0 h1⟩, F2⟩)
theorem next7 (a : Int) (m : Bool) (w : World) (h0 : 0 ≤ a) (h1 : a ≤ 100000) : Calls Try.prog 8 #[.int .i64 a, .bool m] w fun e w' => e = .returned (.int .i64 (a * 2 + (if m then 1 else 0))) ∧ w = w' := by
  have := next_any a m w
  unfold nextW at this
  rw [hd_in h0 (by omega)] at this
  exact this
theorem data7 (b : Int) (w : World) (h0 : 0 ≤ b) (h1 : b ≤ 100000) : Calls Try.prog 10 #[.int .i64 1, .int .i64 b] w fun e w' => e = .returned (.int .i64 (2097153 + b)) ∧ w = w' := by
  have := data_any 1 b w
  unfold dataW at this
  rw [hd_in (by omega) (by omega), hd_in (by omega) (by omega), show (1 * 2097152 + (b + 1) : Int) = 2097153 + b by omega] at this
  exact this
theorem is7 {w : World} {p q : Nat} {L : List (Int × Int)} {b : Bool} (h : A7 w p q L) (e : isL (cks L) = b) : Calls Try.prog 13 #[.agg #[.int .i64 1, .int .i64 3, .int .i64 2000, .int .i64 1000], .pointer (some ⟨p, 0, none⟩)] w fun e w' => e = .returned (.bool b) ∧ Fr [] w w' := by
  obtain ⟨s, hA, hH⟩ := h; subst e; exact is_7 hH p q w hA
theorem all7 {w : World} {p q : Nat} {L : List (Int × Int)} (h : A7 w p q L) : Calls Try.prog 12 #[.agg #[.int .i64 1, .int .i64 3, .int .i64 2000, .int .i64 1000], .pointer (some ⟨p, 0, none⟩)] w fun e w' => (∃ u, e = .returned u ∧ w'.ownsRow w.heap.size 3 1 u (allF (getA baseC L) 2000 3 1).length ((allF (getA baseC L) 2000 3 1).flatMap fN)) ∧ Fr [] w w' := by
  obtain ⟨s, hA, hH⟩ := h; exact all_7 hH p q w hA
theorem of7 {w : World} {p q : Nat} {L : List (Int × Int)} {key a : Int} (h : A7 w p q L) (e : ofL (cks L) key = a) : Calls Try.prog 15 #[.agg #[.int .i64 1, .int .i64 3, .int .i64 2000, .int .i64 1000], .pointer (some ⟨p, 0, none⟩), .int .i64 key] w fun e w' => e = .returned (.int .i64 a) ∧ Fr [] w w' := by
  obtain ⟨s, hA, hH⟩ := h; subst e; exact of_7 hH key p q w hA
theorem now7 {w : World} {p q n : Nat} {L : List (Int × Int)} (h : A7 w p q L) (hwf : (itsOf (cks L)).all (fun it => (Lit.int .i64 it.k).wf) = true) (e : (nowL (itsOf (cks L))).length = n) : Calls Try.prog 14 #[.agg #[.int .i64 1, .int .i64 3, .int .i64 2000, .int .i64 1000], .pointer (some ⟨p, 0, none⟩)] w fun e w' => (∃ a c, e = .returned (.slice a n c)) ∧ Fr [] w w' := by
  obtain ⟨s, hA, hH⟩ := h; subst e
  exact (now_7 hH hwf p q w hA).mono (by rintro e w' ⟨⟨u, rfl, hu⟩, F⟩; obtain ⟨a, c, rfl, -, -⟩ := row_cell hu; exact ⟨⟨a, c, rfl⟩, F⟩)
/-- Where the laying stands. -/
def SpAt (w : World) (p q k bc : Nat) (v : Value) (wr : World) : Prop := ∃ i, i ≤ k ∧ v = .int .i64 (i : Nat) ∧ A7 wr p q (ents k i) ∧ Ob wr bc 24 #[.int .i64 1, .int .i64 3, .int .i64 2000, .int .i64 1000] ∧ Fr [] w wr
set_option maxHeartbeats 6400000 in
theorem spoilt_true (a0 a1 a2 : Int) (w : World) (h0 : 0 ≤ a0 ∧ a0 ≤ 255) (h1 : 0 ≤ a1 ∧ a1 ≤ 255) (h2 : 0 ≤ a2 ∧ a2 ≤ 255) :
    Calls Try.prog 3 #[.int .u8 a0, .int .u8 a1, .int .u8 a2] w fun e w' => e = .returned (.bool true) ∧ Fr [] w w' := by
  have isE := Er.isE
  go_enter Try.func3, Try.ntmps3
  go_wp2_with fail
  refine (known_true _).mono ?_; rintro e w0 ⟨rfl, F0⟩
  go_wp2_with fail
  refine (Pl.conf_any 1 3 2000 _).mono ?_; rintro e w1 ⟨rfl, F1⟩
  replace F1 := F0.trans F1
  clear F0 w0
  have G := F1.alloc (.cells #[.int .i64 1, .int .i64 3, .int .i64 2000, .int .i64 1000] 24)
  have oc := Ob.new w1 24 #[.int .i64 1, .int .i64 3, .int .i64 2000, .int .i64 1000]
  obtain ⟨c0, c1, c2, c3⟩ := Pl.cells4 oc
  have hcw := oc.lt
  have hw1 := F1.size
  clear F1
  go_wp2_with fail
  refine (Pl.make_yes 1 3 2000 1000 (by decide) _).mono ?_; rintro e w2 ⟨p, q, rfl, hp, hq, A, F2⟩
  rw [sizeA] at hp hq
  replace oc := oc.up F2
  have hcw2 := oc.lt
  have hA2 := A.lt
  replace G := G.trans F2
  have hG := G.size
  clear F2 c0 c1 c2 c3
  generalize hbc : w1.heap.size = bc at *
  have nqc : bc ≠ q := by omega
  have npc : bc ≠ p := by omega
  have hwq : w.heap.size ≤ q := by omega
  have A : A7 w2 p q [] := ⟨_, A, holds7_begun⟩
  obtain ⟨k, hk, hk2, hk7⟩ : ∃ k : Nat, a0 % 6 + 2 = (k : Int) ∧ 2 ≤ k ∧ k ≤ 7 := ⟨(a0 % 6 + 2).toNat, by omega, by omega, by omega⟩
  obtain ⟨c0, c1, c2, c3⟩ := Pl.cells4 oc
  go_wp2_with fail
  have HK := Lib.hid hk
  clear hk hp hq hw1 hcw hcw2 hA2 hG hbc c0 c1 c2 c3 h0
  go_loopw [11] (fun u wr => SpAt w p q k bc u wr) (fun u _ => k - (RowKit.intOf u).toNat)
  case atStart => exact ⟨0, by omega, rfl, A, oc, G⟩
  case round =>
    clear A oc G
    obtain ⟨i, hi, rfl, A, oc, G⟩ := hrel
    by_cases hlt : i < k
    · by_cases hl1 : i + 1 < k
      · have g1 : decide ((i : Int) + 1 < (k : Int)) = true := by simp; omega
        by_cases hpar : i % 2 = 1
        · have g2 : ((i : Int) % 2 == 1) = true := by simp; omega
          have HP := Lib.hid hpar
          clear hpar
          go_wp2_with fail
          refine (poke7 _ p q _ _ _ A (by omega) (by omega)).mono ?_; rintro e w3 ⟨rfl, A2, F2⟩
          clear A
          have A := A2
          clear A2
          replace oc := oc.kept F2 (by simpa using nqc)
          replace G := G.own F2 (by simpa using hwq)
          clear F2
          go_wp2_with fail
          refine (next7 _ _ _ (by omega) (by omega)).mono ?_; rintro e _ ⟨rfl, rfl⟩
          go_wp2_with fail
          refine (poke7 _ p q _ _ _ A (by omega) (by omega)).mono ?_; rintro e w4 ⟨rfl, A2, F2⟩
          clear A
          have A := A2
          clear A2
          replace oc := oc.kept F2 (by simpa using nqc)
          replace G := G.own F2 (by simpa using hwq)
          clear F2
          go_wp2_with fail
          refine (Pl.state_any _ 1 (by omega) (by omega) (by decide) (by decide) _).mono ?_; rintro e _ ⟨rfl, rfl⟩
          go_wp2_with fail
          refine (poke7 _ p q _ _ _ A (by omega) (by omega)).mono ?_; rintro e w5 ⟨rfl, A2, F2⟩
          clear A
          have A := A2
          clear A2
          replace oc := oc.kept F2 (by simpa using nqc)
          replace G := G.own F2 (by simpa using hwq)
          clear F2
          go_wp2_with fail
          refine (Pl.state_any _ 1 (by omega) (by omega) (by decide) (by decide) _).mono ?_; rintro e _ ⟨rfl, rfl⟩
          go_wp2_with fail
          refine (poke7 _ p q _ _ _ A (by omega) (by omega)).mono ?_; rintro e w6 ⟨rfl, A2, F2⟩
          clear A
          have A := A2
          clear A2
          replace oc := oc.kept F2 (by simpa using nqc)
          replace G := G.own F2 (by simpa using hwq)
          clear F2
          go_wp2_with fail
          refine (Pl.state_any _ 1 (by omega) (by omega) (by decide) (by decide) _).mono ?_; rintro e _ ⟨rfl, rfl⟩
          go_wp2_with fail
          refine (data7 _ _ (by omega) (by omega)).mono ?_; rintro e _ ⟨rfl, rfl⟩
          go_wp2_with fail
          refine (poke7 _ p q _ _ _ A (by omega) (by omega)).mono ?_; rintro e w7 ⟨rfl, A2, F2⟩
          clear A
          have A := A2
          clear A2
          replace oc := oc.kept F2 (by simpa using nqc)
          replace G := G.own F2 (by simpa using hwq)
          clear F2
          go_wp2_with fail
          go_roundw
          case rel =>
            refine ⟨i + 1, by omega, by go_num, A.conv ?_, oc, G⟩
            show _ = ent k i (ents k i)
            unfold ent nxI
            rw [if_pos hl1, if_pos HP.out]
            simp only [List.cons.injEq, Prod.mk.injEq, and_true, true_and]
            omega
          case measure => simp [RowKit.intOf]; omega
        · have g2 : ((i : Int) % 2 == 1) = false := by simp; omega
          have HP := Lib.hid hpar
          clear hpar
          go_wp2_with fail
          refine (poke7 _ p q _ _ _ A (by omega) (by omega)).mono ?_; rintro e w3 ⟨rfl, A2, F2⟩
          clear A
          have A := A2
          clear A2
          replace oc := oc.kept F2 (by simpa using nqc)
          replace G := G.own F2 (by simpa using hwq)
          clear F2
          go_wp2_with fail
          refine (next7 _ _ _ (by omega) (by omega)).mono ?_; rintro e _ ⟨rfl, rfl⟩
          go_wp2_with fail
          refine (poke7 _ p q _ _ _ A (by omega) (by omega)).mono ?_; rintro e w4 ⟨rfl, A2, F2⟩
          clear A
          have A := A2
          clear A2
          replace oc := oc.kept F2 (by simpa using nqc)
          replace G := G.own F2 (by simpa using hwq)
          clear F2
          go_wp2_with fail
          refine (Pl.state_any _ 1 (by omega) (by omega) (by decide) (by decide) _).mono ?_; rintro e _ ⟨rfl, rfl⟩
          go_wp2_with fail
          refine (poke7 _ p q _ _ _ A (by omega) (by omega)).mono ?_; rintro e w5 ⟨rfl, A2, F2⟩
          clear A
          have A := A2
          clear A2
          replace oc := oc.kept F2 (by simpa using nqc)
          replace G := G.own F2 (by simpa using hwq)
          clear F2
          go_wp2_with fail
          refine (Pl.state_any _ 1 (by omega) (by omega) (by decide) (by decide) _).mono ?_; rintro e _ ⟨rfl, rfl⟩
          go_wp2_with fail
          refine (poke7 _ p q _ _ _ A (by omega) (by omega)).mono ?_; rintro e w6 ⟨rfl, A2, F2⟩
          clear A
          have A := A2
          clear A2
          replace oc := oc.kept F2 (by simpa using nqc)
          replace G := G.own F2 (by simpa using hwq)
          clear F2
          go_wp2_with fail
          refine (Pl.state_any _ 1 (by omega) (by omega) (by decide) (by decide) _).mono ?_; rintro e _ ⟨rfl, rfl⟩
          go_wp2_with fail
          refine (data7 _ _ (by omega) (by omega)).mono ?_; rintro e _ ⟨rfl, rfl⟩
          go_wp2_with fail
          refine (poke7 _ p q _ _ _ A (by omega) (by omega)).mono ?_; rintro e w7 ⟨rfl, A2, F2⟩
          clear A
          have A := A2
          clear A2
          replace oc := oc.kept F2 (by simpa using nqc)
          replace G := G.own F2 (by simpa using hwq)
          clear F2
          go_wp2_with fail
          go_roundw
          case rel =>
            refine ⟨i + 1, by omega, by go_num, A.conv ?_, oc, G⟩
            show _ = ent k i (ents k i)
            unfold ent nxI
            rw [if_pos hl1, if_neg HP.out]
            simp only [List.cons.injEq, Prod.mk.injEq, and_true, true_and]
            omega
          case measure => simp [RowKit.intOf]; omega
      · have g1 : decide ((i : Int) + 1 < (k : Int)) = false := by simp; omega
        by_cases hpar : i % 2 = 1
        · have g2 : ((i : Int) % 2 == 1) = true := by simp; omega
          have HP := Lib.hid hpar
          clear hpar
          go_wp2_with fail
          refine (poke7 _ p q _ _ _ A (by omega) (by omega)).mono ?_; rintro e w3 ⟨rfl, A2, F2⟩
          clear A
          have A := A2
          clear A2
          replace oc := oc.kept F2 (by simpa using nqc)
          replace G := G.own F2 (by simpa using hwq)
          clear F2
          go_wp2_with fail
          refine (next7 _ _ _ (by omega) (by omega)).mono ?_; rintro e _ ⟨rfl, rfl⟩
          go_wp2_with fail
          refine (poke7 _ p q _ _ _ A (by omega) (by omega)).mono ?_; rintro e w4 ⟨rfl, A2, F2⟩
          clear A
          have A := A2
          clear A2
          replace oc := oc.kept F2 (by simpa using nqc)
          replace G := G.own F2 (by simpa using hwq)
          clear F2
          go_wp2_with fail
          refine (Pl.state_any _ 1 (by omega) (by omega) (by decide) (by decide) _).mono ?_; rintro e _ ⟨rfl, rfl⟩
          go_wp2_with fail
          refine (poke7 _ p q _ _ _ A (by omega) (by omega)).mono ?_; rintro e w5 ⟨rfl, A2, F2⟩
          clear A
          have A := A2
          clear A2
          replace oc := oc.kept F2 (by simpa using nqc)
          replace G := G.own F2 (by simpa using hwq)
          clear F2
          go_wp2_with fail
          refine (Pl.state_any _ 1 (by omega) (by omega) (by decide) (by decide) _).mono ?_; rintro e _ ⟨rfl, rfl⟩
          go_wp2_with fail
          refine (poke7 _ p q _ _ _ A (by omega) (by omega)).mono ?_; rintro e w6 ⟨rfl, A2, F2⟩
          clear A
          have A := A2
          clear A2
          replace oc := oc.kept F2 (by simpa using nqc)
          replace G := G.own F2 (by simpa using hwq)
          clear F2
          go_wp2_with fail
          refine (Pl.state_any _ 1 (by omega) (by omega) (by decide) (by decide) _).mono ?_; rintro e _ ⟨rfl, rfl⟩
          go_wp2_with fail
          refine (data7 _ _ (by omega) (by omega)).mono ?_; rintro e _ ⟨rfl, rfl⟩
          go_wp2_with fail
          refine (poke7 _ p q _ _ _ A (by omega) (by omega)).mono ?_; rintro e w7 ⟨rfl, A2, F2⟩
          clear A
          have A := A2
          clear A2
          replace oc := oc.kept F2 (by simpa using nqc)
          replace G := G.own F2 (by simpa using hwq)
          clear F2
          go_wp2_with fail
          go_roundw
          case rel =>
            refine ⟨i + 1, by omega, by go_num, A.conv ?_, oc, G⟩
            show _ = ent k i (ents k i)
            unfold ent nxI
            rw [if_neg hl1, if_pos HP.out]
            simp only [List.cons.injEq, Prod.mk.injEq, and_true, true_and]
            omega
          case measure => simp [RowKit.intOf]; omega
        · have g2 : ((i : Int) % 2 == 1) = false := by simp; omega
          have HP := Lib.hid hpar
          clear hpar
          go_wp2_with fail
          refine (poke7 _ p q _ _ _ A (by omega) (by omega)).mono ?_; rintro e w3 ⟨rfl, A2, F2⟩
          clear A
          have A := A2
          clear A2
          replace oc := oc.kept F2 (by simpa using nqc)
          replace G := G.own F2 (by simpa using hwq)
          clear F2
          go_wp2_with fail
          refine (next7 _ _ _ (by omega) (by omega)).mono ?_; rintro e _ ⟨rfl, rfl⟩
          go_wp2_with fail
          refine (poke7 _ p q _ _ _ A (by omega) (by omega)).mono ?_; rintro e w4 ⟨rfl, A2, F2⟩
          clear A
          have A := A2
          clear A2
          replace oc := oc.kept F2 (by simpa using nqc)
          replace G := G.own F2 (by simpa using hwq)
          clear F2
          go_wp2_with fail
          refine (Pl.state_any _ 1 (by omega) (by omega) (by decide) (by decide) _).mono ?_; rintro e _ ⟨rfl, rfl⟩
          go_wp2_with fail
          refine (poke7 _ p q _ _ _ A (by omega) (by omega)).mono ?_; rintro e w5 ⟨rfl, A2, F2⟩
          clear A
          have A := A2
          clear A2
          replace oc := oc.kept F2 (by simpa using nqc)
          replace G := G.own F2 (by simpa using hwq)
          clear F2
          go_wp2_with fail
          refine (Pl.state_any _ 1 (by omega) (by omega) (by decide) (by decide) _).mono ?_; rintro e _ ⟨rfl, rfl⟩
          go_wp2_with fail
          refine (poke7 _ p q _ _ _ A (by omega) (by omega)).mono ?_; rintro e w6 ⟨rfl, A2, F2⟩
          clear A
          have A := A2
          clear A2
          replace oc := oc.kept F2 (by simpa using nqc)
          replace G := G.own F2 (by simpa using hwq)
          clear F2
          go_wp2_with fail
          refine (Pl.state_any _ 1 (by omega) (by omega) (by decide) (by decide) _).mono ?_; rintro e _ ⟨rfl, rfl⟩
          go_wp2_with fail
          refine (data7 _ _ (by omega) (by omega)).mono ?_; rintro e _ ⟨rfl, rfl⟩
          go_wp2_with fail
          refine (poke7 _ p q _ _ _ A (by omega) (by omega)).mono ?_; rintro e w7 ⟨rfl, A2, F2⟩
          clear A
          have A := A2
          clear A2
          replace oc := oc.kept F2 (by simpa using nqc)
          replace G := G.own F2 (by simpa using hwq)
          clear F2
          go_wp2_with fail
          go_roundw
          case rel =>
            refine ⟨i + 1, by omega, by go_num, A.conv ?_, oc, G⟩
            show _ = ent k i (ents k i)
            unfold ent nxI
            rw [if_neg hl1, if_neg HP.out]
            simp only [List.cons.injEq, Prod.mk.injEq, and_true, true_and]
            omega
          case measure => simp [RowKit.intOf]; omega
    · obtain rfl : i = k := by omega
      obtain ⟨c0, c1, c2, c3⟩ := Pl.cells4 oc
      have HI1 := Lib.hid (show isL (cks (laidL i)) = true by have : isL (cks (laidL (i - 2 + 2))) = true := sp_is ⟨i - 2, by omega⟩; rwa [show i - 2 + 2 = i by omega] at this)
      have HI2 := Lib.hid (show (allF (getA baseC (laidL i)) 2000 3 1).length = i ∧ (allF (getA baseC (laidL i)) 2000 3 1)[i - 1]? = some (100 + 50 * ((i : Int) - 1)) by
        have : (allF (getA baseC (laidL (i - 2 + 2))) 2000 3 1).length = i - 2 + 2 ∧ (allF (getA baseC (laidL (i - 2 + 2))) 2000 3 1)[i - 2 + 1]? = some (100 + 50 * (((i - 2 : Nat) : Int) + 1)) := sp_all ⟨i - 2, by omega⟩
        rw [show i - 2 + 2 = i by omega, show i - 2 + 1 = i - 1 by omega, show ((i - 2 : Nat) : Int) + 1 = (i : Int) - 1 by omega] at this
        exact this)
      have HI3 := Lib.hid (show (nowL (itsOf (cks (laidL i)))).length = i by have : (nowL (itsOf (cks (laidL (i - 2 + 2))))).length = i - 2 + 2 := sp_now ⟨i - 2, by omega⟩; rwa [show i - 2 + 2 = i by omega] at this)
      have HI4 := Lib.hid (show (itsOf (cks (laidL i))).all (fun it => (Lit.int .i64 it.k).wf) = true by have : (itsOf (cks (laidL (i - 2 + 2)))).all (fun it => (Lit.int .i64 it.k).wf) = true := sp_wf ⟨i - 2, by omega⟩; rwa [show i - 2 + 2 = i by omega] at this)
      have HI5 := Lib.hid (show ofL (cks (laidL i)) (7 * (i : Int)) = 100 + 50 * ((i : Int) - 1) by
        have : ofL (cks (laidL (i - 2 + 2))) (7 * (((i - 2 : Nat) : Int) + 2)) = 100 + 50 * (((i - 2 : Nat) : Int) + 1) := sp_of ⟨i - 2, by omega⟩
        rw [show i - 2 + 2 = i by omega, show ((i - 2 : Nat) : Int) + 2 = (i : Int) by omega, show ((i - 2 : Nat) : Int) + 1 = (i : Int) - 1 by omega] at this
        exact this)
      have HI6 := Lib.hid (show ∀ j w, j < i → w < 4 → isL (cks (spL i j w ++ laidL i)) = decide (w = 2 ∧ j + 1 = i) by
        intro j w hj hw
        have : isL (cks (spL (i - 2 + 2) j w ++ laidL (i - 2 + 2))) = decide (w = 2 ∧ j + 1 = i - 2 + 2) := sp_not ⟨i - 2, by omega⟩ ⟨j, by omega⟩ (by show j < i - 2 + 2; omega) ⟨w, hw⟩
        rwa [show i - 2 + 2 = i by omega] at this)
      go_wp2_with fail
      refine (Pl.head_any 1 3 2000 1000 (by decide) (by decide) _).mono ?_; rintro e w3 ⟨rfl, F3⟩
      replace A := A.kept F3 (by simp) (by simp)
      replace oc := oc.up F3
      replace G := G.trans F3
      clear F3 c0 c1 c2 c3
      go_wp2_with fail
      refine (next7 _ _ _ (by omega) (by omega)).mono ?_; rintro e _ ⟨rfl, rfl⟩
      go_wp2_with fail
      refine (poke7 _ p q _ _ _ A (by decide) (by decide)).mono ?_; rintro e w4 ⟨rfl, A2, F2⟩
      clear A
      have A : A7 w4 p q (laidL i) := A2
      clear A2
      replace oc := oc.kept F2 (by simpa using nqc)
      replace G := G.own F2 (by simpa using hwq)
      clear F2
      obtain ⟨c0, c1, c2, c3⟩ := Pl.cells4 oc
      go_wp2_with fail
      refine (all7 A).mono ?_; rintro e w5 ⟨⟨u, rfl, hu⟩, F5⟩
      rw [HI2.out.1] at hu
      have hq5 := A.lt
      replace A := A.kept F5 (by simp) (by simp)
      replace oc := oc.up F5
      replace G := G.trans F5
      clear F5 c0 c1 c2 c3
      obtain ⟨m, rfl⟩ : ∃ m, i = m + 1 := ⟨i - 1, by omega⟩
      obtain ⟨gu, cu, rfl, hug, huc⟩ : ∃ gu cu, u = .slice (some ⟨gu, 0, none⟩) (m + 1) cu ∧ w4.heap.size ≤ gu ∧ w5.cell? ⟨gu, m, none⟩ = some (.int .i64 (100 + 50 * (m : Int))) := by
        obtain ⟨a, c, rfl, -, h⟩ := row_cell hu
        obtain ⟨g, rfl, -, hc⟩ := h.resolve_left (by omega)
        refine ⟨g, c, rfl, row_base hu g (by simp [Value.ownBlock]), hc m _ ?_⟩
        have := HI2.out.2
        rw [show m + 1 - 1 = m by omega, show (((m + 1 : Nat) : Int) - 1) = (m : Int) by omega] at this
        have h2 := fN_lays.at this (j := 0) (by decide)
        rw [Nat.mul_one, Nat.add_zero] at h2
        exact h2.trans rfl
      clear hu
      go_wp2_with fail
      refine wp_region_env (by kernel_rfl) [] (fun w6 F6 => ?_)
      refine env_pass [true, true, true, true, true, true, true, true, true, true, true, true, true, false, false, true, false, false, false, false, false, false, false, false, false, false, false, false, false, false, false] 17 (n := 189) (listed' := #[true, true, true, true, true, true, true, true, true, true, true, true, true, false, false, true, false, false, false, false, false, false, false, false, false, false, false, false, false, false, false]) rfl (by kernel_rfl) (by kernel_rfl) (by kernel_rfl) rfl (by kernel_rfl) (fun _ _ d _ _ h => by cases d <;> exact h) (F6.mono (by simp)) ?_
      apply Exists.intro
      refine ⟨fun wf Ff => ?_, ?_⟩
      · obtain ⟨c0, c1, c2, c3⟩ := Pl.cells4 (oc.up Ff)
        have k0 := In.cell c0
        have k1 := In.cell c1
        have k2 := In.cell c2
        have k3 := In.cell c3
        have AF := A.kept Ff (by simp) (by simp)
        clear c0 c1 c2 c3
        simp only [sel]
        repeat (go_big_quiet_step ((go_at_call 13; exact Calls.in_ (is7 (AF.kept (In.fr _) (by simp) (by simp)) HI1.out))))
        exact wpQuiet_nil rfl
      refine env_one 13 (by kernel_rfl) rfl rfl (fun w7 F7 => ?_)
      have E := F6.trans F7
      clear F6 F7
      go_wp2_with fail
      refine (now7 (A.kept E (by simp) (by simp)) HI4.out HI3.out).mono ?_; rintro e w8 ⟨⟨an, cn, rfl⟩, F8⟩
      replace E := E.trans F8
      clear F8
      go_wp2_with fail
      refine nx_normal ⟨E, ?_⟩
      refine env_pass [false, false, false, false, false, false, false, false, false, false, false, false, false, false, true, false, true, true, true, true, true, true, true, true, true, true, true, true, true, true, true] 0 (n := 189) (listed' := #[true, true, true, true, true, true, true, true, true, true, true, true, true, true, true, true, true, true, true, true, true, true, true, true, true, true, true, true, true, true, true]) rfl (by kernel_rfl) (by kernel_rfl) (by kernel_rfl) rfl (by kernel_rfl) (fun _ _ d _ _ h => by cases d <;> exact h) E ?_
      apply Exists.intro
      refine ⟨fun wf Ff => ?_, ?_⟩
      · obtain ⟨c0, c1, c2, c3⟩ := Pl.cells4 (oc.up Ff)
        have k0 := In.cell c0
        have k1 := In.cell c1
        have k2 := In.cell c2
        have k3 := In.cell c3
        have k4 := In.cell (Ff.cell huc (by simp))
        have AF := A.kept Ff (by simp) (by simp)
        have HO := HI5.out
        rw [show (((m + 1 : Nat) : Int)) = (m : Int) + 1 by omega, show ((m : Int) + 1 - 1) = (m : Int) by omega] at HO
        have HOF := Lib.hid HO
        clear c0 c1 c2 c3 HO
        simp only [sel]
        repeat (go_big_quiet_step ((go_at_call 15; exact Calls.in_ (of7 (AF.kept (In.fr _) (by simp) (by simp)) HOF.out))))
        exact wpQuiet_nil rfl
      refine env_done (by kernel_rfl) (fun w9 F9 => ?_)
      replace E := E.trans F9
      replace A := A.kept E (by simp) (by simp)
      replace oc := oc.up E
      replace G := G.trans E
      clear E F9 hug huc hq5
      obtain ⟨j, hj, hjm⟩ : ∃ j : Nat, a1 % ((m : Int) + 1) = (j : Int) ∧ j < m + 1 := by
        have e1 := Int.emod_nonneg a1 (show ((m : Int) + 1) ≠ 0 by omega)
        have e2 := Int.emod_lt_of_pos a1 (show 0 < ((m : Int) + 1) by omega)
        exact ⟨(a1 % ((m : Int) + 1)).toNat, by omega, by omega⟩
      have hm7 : m + 1 ≤ 7 := hk7
      have h4 : a2 % 4 = 0 ∨ a2 % 4 = 1 ∨ a2 % 4 = 2 ∨ a2 % 4 = 3 := by omega
      rcases h4 with h4 | h4 | h4 | h4
      · by_cases q1 : j + 1 = m + 1
        · have g1 : ((j : Int) + 1 == (m : Int) + 1) = true := by simp; omega
          have HQ := Lib.hid q1
          clear q1
          go_wp2_with fail
          refine (poke7 _ p q _ _ _ A (by omega) (by omega)).mono ?_; rintro e w10 ⟨rfl, A2, F2⟩
          clear A
          have A := A2
          clear A2
          replace oc := oc.kept F2 (by simpa using nqc)
          replace G := G.own F2 (by simpa using hwq)
          clear F2
          go_wp2_with fail
          refine (poke7 _ p q _ _ _ A (by omega) (by omega)).mono ?_; rintro e w11 ⟨rfl, A2, F2⟩
          clear A
          have A := A2
          clear A2
          replace oc := oc.kept F2 (by simpa using nqc)
          replace G := G.own F2 (by simpa using hwq)
          clear F2
          have HL := Lib.hid (HI6.out j 0 (by omega) (by decide))
          have A3 : A7 _ p q (spL (m + 1) j 0 ++ laidL (m + 1)) := A.conv (by
            unfold spL
            rw [if_pos rfl, if_pos HQ.out]
            simp only [List.cons_append, List.nil_append, List.cons.injEq, Prod.mk.injEq, and_true, true_and]
            try omega)
          clear A
          have HE := Lib.hid (show isL (cks (spL (m + 1) j 0 ++ laidL (m + 1))) = false by rw [HL.out]; simp)
          obtain ⟨c0, c1, c2, c3⟩ := Pl.cells4 oc
          go_wp2_with fail
          refine (is7 A3 HE.out).mono ?_; rintro e w20 ⟨rfl, F20⟩
          go_wp2_with fail
          go_ret
          exact ⟨rfl, G.trans F20⟩
        · have g1 : ((j : Int) + 1 == (m : Int) + 1) = false := by simp; omega
          have HQ := Lib.hid q1
          clear q1
          go_wp2_with fail
          refine (poke7 _ p q _ _ _ A (by omega) (by omega)).mono ?_; rintro e w10 ⟨rfl, A2, F2⟩
          clear A
          have A := A2
          clear A2
          replace oc := oc.kept F2 (by simpa using nqc)
          replace G := G.own F2 (by simpa using hwq)
          clear F2
          have HL := Lib.hid (HI6.out j 0 (by omega) (by decide))
          have A3 : A7 _ p q (spL (m + 1) j 0 ++ laidL (m + 1)) := A.conv (by
            unfold spL
            rw [if_pos rfl, if_neg HQ.out]
            simp only [List.cons_append, List.nil_append, List.cons.injEq, Prod.mk.injEq, and_true, true_and]
            try omega)
          clear A
          have HE := Lib.hid (show isL (cks (spL (m + 1) j 0 ++ laidL (m + 1))) = false by rw [HL.out]; simp)
          obtain ⟨c0, c1, c2, c3⟩ := Pl.cells4 oc
          go_wp2_with fail
          refine (is7 A3 HE.out).mono ?_; rintro e w20 ⟨rfl, F20⟩
          go_wp2_with fail
          go_ret
          exact ⟨rfl, G.trans F20⟩
      · go_wp2_with fail
        refine (Pl.state_any _ 1 (by omega) (by omega) (by decide) (by decide) _).mono ?_; rintro e _ ⟨rfl, rfl⟩
        go_wp2_with fail
        refine (poke7 _ p q _ _ _ A (by omega) (by omega)).mono ?_; rintro e w10 ⟨rfl, A2, F2⟩
        clear A
        have A := A2
        clear A2
        replace oc := oc.kept F2 (by simpa using nqc)
        replace G := G.own F2 (by simpa using hwq)
        clear F2
        have HL := Lib.hid (HI6.out j 1 (by omega) (by decide))
        have A3 : A7 _ p q (spL (m + 1) j 1 ++ laidL (m + 1)) := A.conv (by
          unfold spL
          rw [if_neg (by decide), if_pos rfl]
          simp only [List.cons_append, List.nil_append, List.cons.injEq, Prod.mk.injEq, and_true, true_and]
          try omega)
        clear A
        have HE := Lib.hid (show isL (cks (spL (m + 1) j 1 ++ laidL (m + 1))) = false by rw [HL.out]; simp)
        obtain ⟨c0, c1, c2, c3⟩ := Pl.cells4 oc
        go_wp2_with fail
        refine (is7 A3 HE.out).mono ?_; rintro e w20 ⟨rfl, F20⟩
        go_wp2_with fail
        go_ret
        exact ⟨rfl, G.trans F20⟩
      · by_cases q1 : j + 1 = m + 1
        · have g1 : ((j : Int) + 1 == (m : Int) + 1) = true := by simp; omega
          have HQ := Lib.hid q1
          clear q1
          go_wp2_with fail
          refine (Pl.state_any _ 1 (by omega) (by omega) (by decide) (by decide) _).mono ?_; rintro e _ ⟨rfl, rfl⟩
          go_wp2_with fail
          refine (poke7 _ p q _ _ _ A (by omega) (by omega)).mono ?_; rintro e w10 ⟨rfl, A2, F2⟩
          clear A
          have A := A2
          clear A2
          replace oc := oc.kept F2 (by simpa using nqc)
          replace G := G.own F2 (by simpa using hwq)
          clear F2
          have HL := Lib.hid (HI6.out j 2 (by omega) (by decide))
          have A3 : A7 _ p q (spL (m + 1) j 2 ++ laidL (m + 1)) := A.conv (by
            unfold spL
            rw [if_neg (by decide), if_neg (by decide), if_pos rfl]
            simp only [List.cons_append, List.nil_append, List.cons.injEq, Prod.mk.injEq, and_true, true_and]
            try omega)
          clear A
          have HE := Lib.hid (show isL (cks (spL (m + 1) j 2 ++ laidL (m + 1))) = true by rw [HL.out]; simp; have := HQ.out; omega)
          obtain ⟨c0, c1, c2, c3⟩ := Pl.cells4 oc
          go_wp2_with fail
          refine (is7 A3 HE.out).mono ?_; rintro e w20 ⟨rfl, F20⟩
          go_wp2_with fail
          go_ret
          exact ⟨rfl, G.trans F20⟩
        · have g1 : ((j : Int) + 1 == (m : Int) + 1) = false := by simp; omega
          have HQ := Lib.hid q1
          clear q1
          go_wp2_with fail
          refine (Pl.state_any _ 1 (by omega) (by omega) (by decide) (by decide) _).mono ?_; rintro e _ ⟨rfl, rfl⟩
          go_wp2_with fail
          refine (poke7 _ p q _ _ _ A (by omega) (by omega)).mono ?_; rintro e w10 ⟨rfl, A2, F2⟩
          clear A
          have A := A2
          clear A2
          replace oc := oc.kept F2 (by simpa using nqc)
          replace G := G.own F2 (by simpa using hwq)
          clear F2
          have HL := Lib.hid (HI6.out j 2 (by omega) (by decide))
          have A3 : A7 _ p q (spL (m + 1) j 2 ++ laidL (m + 1)) := A.conv (by
            unfold spL
            rw [if_neg (by decide), if_neg (by decide), if_pos rfl]
            simp only [List.cons_append, List.nil_append, List.cons.injEq, Prod.mk.injEq, and_true, true_and]
            try omega)
          clear A
          have HE := Lib.hid (show isL (cks (spL (m + 1) j 2 ++ laidL (m + 1))) = false by rw [HL.out]; simp; have := HQ.out; omega)
          obtain ⟨c0, c1, c2, c3⟩ := Pl.cells4 oc
          go_wp2_with fail
          refine (is7 A3 HE.out).mono ?_; rintro e w20 ⟨rfl, F20⟩
          go_wp2_with fail
          go_ret
          exact ⟨rfl, G.trans F20⟩
      · go_wp2_with fail
        refine (next7 _ _ _ (by omega) (by omega)).mono ?_; rintro e _ ⟨rfl, rfl⟩
        go_wp2_with fail
        refine (poke7 _ p q _ _ _ A (by omega) (by omega)).mono ?_; rintro e w10 ⟨rfl, A2, F2⟩
        clear A
        have A := A2
        clear A2
        replace oc := oc.kept F2 (by simpa using nqc)
        replace G := G.own F2 (by simpa using hwq)
        clear F2
        have HL := Lib.hid (HI6.out j 3 (by omega) (by decide))
        have A3 : A7 _ p q (spL (m + 1) j 3 ++ laidL (m + 1)) := A.conv (by
          unfold spL
          rw [if_neg (by decide), if_neg (by decide), if_neg (by decide)]
          simp only [List.cons_append, List.nil_append, List.cons.injEq, Prod.mk.injEq, and_true, true_and]
          try omega)
        clear A
        have HE := Lib.hid (show isL (cks (spL (m + 1) j 3 ++ laidL (m + 1))) = false by rw [HL.out]; simp)
        obtain ⟨c0, c1, c2, c3⟩ := Pl.cells4 oc
        go_wp2_with fail
        refine (is7 A3 HE.out).mono ?_; rintro e w20 ⟨rfl, F20⟩
        go_wp2_with fail
        go_ret
        exact ⟨rfl, G.trans F20⟩
end Go.Proofs.Ytkdnhaglfbkhfaa.Ch
