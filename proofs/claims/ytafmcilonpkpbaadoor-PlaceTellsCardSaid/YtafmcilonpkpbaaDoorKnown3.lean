/- The examples that every statement of layer 3 opens with all hold: 'known' returns true. -/
import Derived.Test.YtafmcilonpkpbaaDoorFirst
import Derived.Test.YtafmcilonpkpbaaDoorErr
import Derived.WalkSpells
namespace Go.Proofs.YtafmcilonpkpbaaDoor.Pl
open Go.RowKit Go.Proofs.YtafmcilonpkpbaaDoor.Ar
theorem len_of' (w : World) (p q : Nat) (s : St) (n : Nat) (h : Ar w p q s) (hv : s.l.length = n) :
    Calls Tryd.prog 27 #[.pointer (some ⟨p, 0, none⟩)] w fun e w' => e = .returned (.int .i64 n) ∧ w = w' := hv ▸ len_any w p q s h
theorem peek_of' (w : World) (p q : Nat) (s : St) (i v : Int) (h : Ar w p q s) (hv : peek s.l i = v) :
    Calls Tryd.prog 28 #[.pointer (some ⟨p, 0, none⟩), .int .i64 i] w fun e w' => e = .returned (.int .i64 v) ∧ w = w' := hv ▸ peek_any w p q s i h
theorem accesses_of' (w : World) (p q : Nat) (s : St) (v : Int) (h : Ar w p q s) (hv : s.n = v) :
    Calls Tryd.prog 29 #[.pointer (some ⟨p, 0, none⟩)] w fun e w' => e = .returned (.int .i64 v) ∧ w = w' := hv ▸ accesses_any w p q s h
theorem is_ok (t c wd v : Int) (h : code t c wd v = 0) (w : World) :
    Calls Tryd.prog 6 #[.agg #[.int .i64 t, .int .i64 c, .int .i64 wd, .int .i64 v]] w fun e w' => e = .returned .nilIface ∧ Fr [] w w' := is_of t c wd v h w
theorem is_bad (t c wd v n : Int) (hn : n ≠ 0) (h : code t c wd v = n) (w : World) :
    Calls Tryd.prog 6 #[.agg #[.int .i64 t, .int .i64 c, .int .i64 wd, .int .i64 v]] w fun e w' => e = .returned (.iface 42 (.int .i64 n)) ∧ Fr [] w w' := by
  have := is_of t c wd v h w
  rwa [errv, if_neg hn] at this
theorem cells4_kept {S : List Nat} {w w' : World} {b : Nat} {x0 x1 x2 x3 : Value} (f : Fr S w w') (hb : b ∉ S) (h : w.cell? ⟨b, 0, none⟩ = some x0 ∧ w.cell? ⟨b, 1, none⟩ = some x1 ∧ w.cell? ⟨b, 2, none⟩ = some x2 ∧ w.cell? ⟨b, 3, none⟩ = some x3) :
    w'.cell? ⟨b, 0, none⟩ = some x0 ∧ w'.cell? ⟨b, 1, none⟩ = some x1 ∧ w'.cell? ⟨b, 2, none⟩ = some x2 ∧ w'.cell? ⟨b, 3, none⟩ = some x3 :=
  ⟨f.cell h.1 hb, f.cell h.2.1 hb, f.cell h.2.2.1 hb, f.cell h.2.2.2 hb⟩
theorem len200 : (begun 2 4 200).l.length = 200 := (begun_nth (wd := 200) (by decide) (by decide) (by decide) (by decide)).1
theorem at2 : peek (begun 2 4 200).l 2 = 35 := begun_peek (n := 200) 2 (by decide) (by decide) (by decide) (by decide) (by decide)
theorem at9 : peek (begun 2 4 200).l 9 = -1 := begun_peek (n := 200) 9 (by decide) (by decide) (by decide) (by decide) (by decide)
theorem at11 : peek (begun 2 4 200).l 11 = 32 := begun_peek (n := 200) 11 (by decide) (by decide) (by decide) (by decide) (by decide)
set_option maxHeartbeats 1600000 in
theorem known_true (w : World) : Calls Tryd.prog 4 #[] w fun e w' => e = .returned (.bool true) ∧ Fr [] w w' := by
  have isE := Er.isE
  go_enter Tryd.func4, Tryd.ntmps4
  go_wp2_with fail
  refine (conf_any 2 4 200 _).mono ?_; rintro e w1 ⟨rfl, F1⟩
  have G0 := F1.alloc (.cells #[.int .i64 2, .int .i64 4, .int .i64 200, .int .i64 1000] 23)
  obtain ⟨c0, c1, c2, c3⟩ := cells4 (Go.heap_alloc_new w1 (.cells #[.int .i64 2, .int .i64 4, .int .i64 200, .int .i64 1000] 23))
  clear F1
  go_wp2_with fail
  refine (make_yes 2 4 200 1000 (by decide) _).mono ?_; rintro e v0 ⟨p, q, rfl, hp, hq, A, F⟩
  obtain ⟨c0, c1, c2, c3⟩ := cells4_kept F (by simp) ⟨c0, c1, c2, c3⟩
  have G := G0.trans F
  clear F G0 hp hq
  go_wp2_with fail
  refine (is_ok 2 4 200 1000 (by decide) _).mono ?_; rintro e v1 ⟨rfl, F⟩
  obtain ⟨c0, c1, c2, c3⟩ := cells4_kept F (by simp) ⟨c0, c1, c2, c3⟩
  have A := A.kept F (by simp) (by simp)
  have G := G.trans F
  clear F
  go_wp2_with fail
  refine (conf_any 2 3 200 _).mono ?_; rintro e v2 ⟨rfl, F⟩
  obtain ⟨c0, c1, c2, c3⟩ := cells4_kept F (by simp) ⟨c0, c1, c2, c3⟩
  have A := A.kept F (by simp) (by simp)
  have G := G.trans F
  clear F
  go_wp2_with fail
  refine (is_bad 2 3 200 1000 10 (by decide) (by decide) _).mono ?_; rintro e v3 ⟨rfl, F⟩
  obtain ⟨c0, c1, c2, c3⟩ := cells4_kept F (by simp) ⟨c0, c1, c2, c3⟩
  have A := A.kept F (by simp) (by simp)
  have G := G.trans F
  clear F
  go_wp2_with fail
  refine (Er.is_same 10 _).mono ?_; rintro e _ ⟨rfl, rfl⟩
  go_wp2_with fail
  refine (conf_any 2 4 30 _).mono ?_; rintro e v4 ⟨rfl, F⟩
  obtain ⟨c0, c1, c2, c3⟩ := cells4_kept F (by simp) ⟨c0, c1, c2, c3⟩
  have A := A.kept F (by simp) (by simp)
  have G := G.trans F
  clear F
  go_wp2_with fail
  refine (is_bad 2 4 30 1000 14 (by decide) (by decide) _).mono ?_; rintro e v5 ⟨rfl, F⟩
  obtain ⟨c0, c1, c2, c3⟩ := cells4_kept F (by simp) ⟨c0, c1, c2, c3⟩
  have A := A.kept F (by simp) (by simp)
  have G := G.trans F
  clear F
  go_wp2_with fail
  refine (Er.is_same 14 _).mono ?_; rintro e _ ⟨rfl, rfl⟩
  go_wp2_with fail
  refine (size_any 2 4 200 1000 (by decide) (by decide) _).mono ?_; rintro e v6 ⟨rfl, F⟩
  obtain ⟨c0, c1, c2, c3⟩ := cells4_kept F (by simp) ⟨c0, c1, c2, c3⟩
  have A := A.kept F (by simp) (by simp)
  have G := G.trans F
  clear F
  go_wp2_with fail
  refine (psa_any 1 (by decide) (by decide) _).mono ?_; rintro e _ ⟨rfl, rfl⟩
  go_wp2_with fail
  refine (hint_any 2 4 200 1000 63 (by decide) (by decide) (by decide) (by decide) _).mono ?_; rintro e v7 ⟨rfl, F⟩
  obtain ⟨c0, c1, c2, c3⟩ := cells4_kept F (by simp) ⟨c0, c1, c2, c3⟩
  have A := A.kept F (by simp) (by simp)
  have G := G.trans F
  clear F
  go_wp2_with fail
  refine (head_any 2 4 200 1000 (by decide) (by decide) _).mono ?_; rintro e v8 ⟨rfl, F⟩
  obtain ⟨c0, c1, c2, c3⟩ := cells4_kept F (by simp) ⟨c0, c1, c2, c3⟩
  have A := A.kept F (by simp) (by simp)
  have G := G.trans F
  clear F
  go_wp2_with fail
  refine (first_any 2 4 200 1000 (by decide) (by decide) _).mono ?_; rintro e v9 ⟨rfl, F⟩
  obtain ⟨c0, c1, c2, c3⟩ := cells4_kept F (by simp) ⟨c0, c1, c2, c3⟩
  have A := A.kept F (by simp) (by simp)
  have G := G.trans F
  clear F
  go_wp2_with fail
  refine (top_any 2 4 200 1000 (by decide) (by decide) (by decide) (by decide) _).mono ?_; rintro e v10 ⟨rfl, F⟩
  obtain ⟨c0, c1, c2, c3⟩ := cells4_kept F (by simp) ⟨c0, c1, c2, c3⟩
  have A := A.kept F (by simp) (by simp)
  have G := G.trans F
  clear F
  go_wp2_with fail
  refine (state_any 16 1 (by decide) (by decide) (by decide) (by decide) _).mono ?_; rintro e _ ⟨rfl, rfl⟩
  go_wp2_with fail
  refine (len_of' _ p q _ 200 A len200).mono ?_; rintro e _ ⟨rfl, rfl⟩
  go_wp2_with fail
  refine (peek_of' _ p q _ 2 35 A at2).mono ?_; rintro e _ ⟨rfl, rfl⟩
  go_wp2_with fail
  refine (peek_of' _ p q _ 9 (-1) A at9).mono ?_; rintro e _ ⟨rfl, rfl⟩
  go_wp2_with fail
  refine (peek_of' _ p q _ 11 32 A at11).mono ?_; rintro e _ ⟨rfl, rfl⟩
  go_wp2_with fail
  refine (accesses_of' _ p q _ 0 A rfl).mono ?_; rintro e _ ⟨rfl, rfl⟩
  go_wp2
  go_ret
  exact ⟨rfl, G⟩
end Go.Proofs.YtafmcilonpkpbaaDoor.Pl
