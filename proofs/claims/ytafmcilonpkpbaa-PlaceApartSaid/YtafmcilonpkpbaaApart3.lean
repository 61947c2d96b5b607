/- The walk of PlaceApart. -/
import Derived.Test.YtafmcilonpkpbaaWords3
import Derived.Test.YtafmcilonpkpbaaRow
import Derived.Deep.RegionWith
namespace Go.Proofs.Ytafmcilonpkpbaa.Pl
open Go.RowKit Go.Proofs.Ytafmcilonpkpbaa.Ar
theorem intInfo3 : (Try.prog.info? 3).map (fun i => (i.zero, i.size, i.bytes)) = some (some (.int .i64 0), 1, 8) := by kernel_rfl
/-- The places, in the order in which they are listed: one by one, but the head's and the first chunk's headers by turns. -/
def listed (n i : Nat) : Nat := if i < n + 7 then i else if i < n + 21 then n + 7 + (i - (n + 7)) / 2 + 7 * ((i - (n + 7)) % 2) else i
theorem listed_inj {n i j : Nat} (h : listed n i = listed n j) : i = j := by
  unfold listed at h
  (repeat' split at h) <;> omega
theorem listed_lt {n i m : Nat} (hm : n + 21 ≤ m) (h : i < m) : listed n i < m := by
  unfold listed
  (repeat' split) <;> omega
def listing (n m : Nat) : List Value := (List.range m).map fun i => Value.int .i64 (listed n i : Nat)
theorem listing_len (n m : Nat) : (listing n m).length = m := by simp [listing]
theorem listing_one {n m : Nat} {a : Int} (h : a = (listed n m : Nat)) : listing n m ++ [.int .i64 a] = listing n (m + 1) := by
  subst h; simp [listing, List.range_succ]
def Zeros (Z : Array Value) : Prop := Z = Array.replicate 500 (.int .i64 0)
/-- All that the loops keep. -/
structure Keep (W : World) (Z : Array Value) (bc bu n c m : Nat) (v : Value) (wr : World) : Prop where
  row : wr.ownsRow W.heap.size 3 1 v m (listing n m)
  conf : wr.heap[bc]? = some (.cells #[.int .i64 n, .int .i64 c, .int .i64 500, .int .i64 1000] 24 (0, 0))
  used : wr.heap[bu]? = some (.cells Z 29 (0, 0))
  fr : Fr [] W wr
theorem Keep.fresh {Z : Array Value} {W wr w' : World} {bc bu n c m : Nat} {v : Value} (h : Keep W Z bc bu n c m v wr) (f : Fr [] wr w') : Keep W Z bc bu n c m v w' :=
  ⟨row_keeps h.row f, f.heap h.conf (by simp), f.heap h.used (by simp), h.fr.trans f⟩
theorem Keep.more {Z : Array Value} {W wr w' : World} {bc bu n c m k : Nat} {v v' : Value} {cs : List Value} (h : Keep W Z bc bu n c m v wr) (hr : w'.ownsRow W.heap.size 3 1 v' (m + k) (listing n m ++ cs)) (f : Fr v.ownBlock.toList wr w') (hl : listing n m ++ cs = listing n (m + k)) : Keep W Z bc bu n c (m + k) v' w' :=
  ⟨hl ▸ hr, f.heap h.conf (row_ne h.row h.conf (by decide)), f.heap h.used (row_ne h.row h.used (by decide)), h.fr.own f (row_base h.row)⟩
/-- Where a loop stands that lists d places a round, behind s others. -/
def LL (W : World) (Z : Array Value) (bc bu n c s d m : Nat) (v i : Value) (wr : World) : Prop := ∃ k : Nat, k ≤ m ∧ i = .int .i64 k ∧ Keep W Z bc bu n c (s + d * k) v wr
theorem hint_at (t c wd v k : Int) (h1 : 1 ≤ t) (h2 : t ≤ 8) (h3 : 0 ≤ k) (h4 : k ≤ 3) (w : World) :
    Calls Try.prog 9 #[.agg #[.int .i64 t, .int .i64 c, .int .i64 wd, .int .i64 v], .int .i64 (16 * k)] w fun e w' => e = .returned (.int .i64 (3 + t + k)) ∧ Fr [] w w' := by
  have := hint_any t c wd v (16 * k) h1 h2 (by omega) (by omega) w
  rwa [show 16 * k / 16 = k by omega] at this
theorem listing_two {n m : Nat} {a b : Int} (h : a = (listed n m : Nat)) (h' : b = (listed n (m + 1) : Nat)) : listing n m ++ [.int .i64 a, .int .i64 b] = listing n (m + 2) := by
  subst h; subst h'; simp [listing, List.range_succ]
theorem listing_three {n m : Nat} {a b d : Int} (h : a = (listed n m : Nat)) (h' : b = (listed n (m + 1) : Nat)) (h'' : d = (listed n (m + 2) : Nat)) : listing n m ++ [.int .i64 a, .int .i64 b, .int .i64 d] = listing n (m + 3) := by
  subst h; subst h'; subst h''; simp [listing, List.range_succ]
theorem alloc500 (W : World) : (Instr.alloc 29 true (.tuple #[])).run Try.prog W = .ok (.pointer (some ⟨W.heap.size, 0, none⟩)) (W.alloc (.cells (Array.replicate 500 (.int .i64 0)) 29)) := by kernel_rfl
theorem wpList_alloc500 {w : World} {ops : Array Oper} {rest : List Oper} {o : Oper} {a : Act} {Q : Exit → Act → World → Prop} (hg : o.guard = none) (hop : o.op = Op.alloc 29)
    (h : ∀ Z, Zeros Z → wpList Try.prog ops Q rest (a.put o.dst (.pointer (some ⟨w.heap.size, 0, none⟩))) (w.alloc (.cells Z 29))) : wpList Try.prog ops Q (o :: rest) a w := by
  refine wpList_plain hg fun K hK => ?_
  have h := h _ rfl
  unfold Oper.wp
  simp only [execOp, hop, Sem.run_bind, alloc500, Result.andThen_ok]
  exact hK _ _ h
theorem start_row (n : Nat) : [Value.int .i64 0, .int .i64 1, .int .i64 2] = listing n 3 := by
  simp [listing, List.range_succ, listed, show 0 < n + 7 by omega, show 1 < n + 7 by omega, show 2 < n + 7 by omega]
theorem Keep.start {Z : Array Value} {W wr : World} {n c bc : Nat} (f : Fr [] W wr) (hc : wr.heap[bc]? = some (.cells #[.int .i64 n, .int .i64 c, .int .i64 500, .int .i64 1000] 24 (0, 0))) :
    Keep W Z bc wr.heap.size n c 3 (.slice (some ⟨wr.heap.size + 1, 0, none⟩) 3 3) ((wr.alloc (.cells Z 29)).alloc (.cells #[.int .i64 0, .int .i64 1, .int .i64 2] 3)) := by
  refine ⟨?_, (heap_alloc_old _ _ (by have := (Array.getElem?_eq_some_iff.1 hc).1; simp; omega)).trans ((heap_alloc_old _ _ (Array.getElem?_eq_some_iff.1 hc).1).trans hc), (heap_alloc_old _ _ (by simp)).trans (Go.heap_alloc_new _ _), (f.alloc _).alloc _⟩
  have := World.ownsRow_lit (base := W.heap.size) (e := 3) (size := 1) (wr.alloc (.cells Z 29)) #[.int .i64 0, .int .i64 1, .int .i64 2] 3 (by have := f.size; simp; omega) (by unfold maxLen; omega) rfl
  rw [← start_row n]
  simpa using this
/-- Where the last loop stands: of the first k places each is marked; those that aren't listed yet aren't. -/
def Marks (W : World) (bc bu g n c cap m : Nat) (i : Value) (wr : World) : Prop := ∃ (k : Nat) (Z : Array Value), k ≤ m ∧ i = .int .i64 k ∧ Keep W Z bc bu n c m (.slice (some ⟨g, 0, none⟩) m cap) wr ∧ Z.size = 500 ∧ ∀ j, j < 500 → (∀ i, i < k → listed n i ≠ j) → Z[j]? = some (.int .i64 0)
theorem Marks.start {W wr : World} {Z : Array Value} {bc bu g n c cap m : Nat} (hZ : Zeros Z) (h : Keep W Z bc bu n c m (.slice (some ⟨g, 0, none⟩) m cap) wr) : Marks W bc bu g n c cap m (.int .i64 (0 : Nat)) wr := by
  refine ⟨0, Z, Nat.zero_le _, rfl, h, by rw [hZ]; simp, fun j hj _ => ?_⟩
  rw [show Z = _ from hZ]; simp [hj]
theorem Marks.step {W wr : World} {Z : Array Value} {bc bu g n c cap m k : Nat} (hb : W.heap.size ≤ bu) (hk : k < m) (h : Keep W Z bc bu n c m (.slice (some ⟨g, 0, none⟩) m cap) wr) (hs : Z.size = 500) (hz : ∀ j, j < 500 → (∀ i, i < k → listed n i ≠ j) → Z[j]? = some (.int .i64 0)) :
    Marks W bc bu g n c cap m (.int .i64 ((k + 1 : Nat) : Int)) (wr.setCell ⟨bu, listed n k, none⟩ (.int .i64 1)) := by
  have hgb : g ≠ bu := fun e => by
    have := row_ne h.row h.used (by decide)
    rw [e] at this
    simp [Value.ownBlock] at this
  have hcb : bc ≠ bu := fun e => by
    have h1 := h.conf
    rw [e, h.used] at h1
    simp only [Option.some.injEq, Obj.cells.injEq] at h1
    exact absurd h1.2.1 (by decide)
  have F : Fr [bu] wr (wr.setCell ⟨bu, listed n k, none⟩ (.int .i64 1)) := Fr.setCell _ (by simp)
  refine ⟨k + 1, Z.setIfInBounds (listed n k) (.int .i64 1), hk, rfl, ⟨row_fr h.row F (fun g' hg' => ?_), F.heap h.conf (by simpa using hcb), heap_setCell_same _ _ _ _ _ _ h.used, h.fr.own F (by simpa using hb)⟩, by simpa using hs, fun j hj hn => ?_⟩
  · simp only [Value.ownBlock, Option.some.injEq] at hg'
    subst hg'; simpa using hgb
  · have h1 := hn k (by omega)
    rw [Array.getElem?_setIfInBounds_ne h1]
    exact hz j hj fun i hi => hn i (by omega)
theorem listing_at {n m k : Nat} (h : k < m) : (listing n m)[k]? = some (.int .i64 (listed n k : Nat)) := by simp [listing, h]
theorem hint15 (t c wd v : Int) (h1 : 1 ≤ t) (h2 : t ≤ 8) (w : World) :
    Calls Try.prog 9 #[.agg #[.int .i64 t, .int .i64 c, .int .i64 wd, .int .i64 v], .int .i64 15] w fun e w' => e = .returned (.int .i64 (3 + t)) ∧ Fr [] w w' := by
  have := hint_any t c wd v 15 h1 h2 (by omega) (by omega) w
  rwa [show 3 + t + 15 / 16 = 3 + t by omega] at this
theorem hint0 (t c wd v : Int) (h1 : 1 ≤ t) (h2 : t ≤ 8) (w : World) :
    Calls Try.prog 9 #[.agg #[.int .i64 t, .int .i64 c, .int .i64 wd, .int .i64 v], .int .i64 0] w fun e w' => e = .returned (.int .i64 (3 + t)) ∧ Fr [] w w' := by
  have := hint_any t c wd v 0 h1 h2 (by omega) (by omega) w
  rwa [show 3 + t + 0 / 16 = 3 + t by omega] at this
theorem hint16 (t c wd v : Int) (h1 : 1 ≤ t) (h2 : t ≤ 8) (w : World) :
    Calls Try.prog 9 #[.agg #[.int .i64 t, .int .i64 c, .int .i64 wd, .int .i64 v], .int .i64 16] w fun e w' => e = .returned (.int .i64 (4 + t)) ∧ Fr [] w w' := by
  have := hint_any t c wd v 16 h1 h2 (by omega) (by omega) w
  rwa [show 3 + t + 16 / 16 = 4 + t by omega] at this
set_option maxRecDepth 100000 in
set_option maxHeartbeats 1600000 in
theorem apart_true (a0 a1 : Int) (w : World) (h0 : 0 ≤ a0 ∧ a0 ≤ 255) (h1 : 0 ≤ a1 ∧ a1 ≤ 255) :
    Calls Try.prog 3 #[.int .u8 a0, .int .u8 a1] w fun e w' => e = .returned (.bool true) ∧ Fr [] w w' := by
  have isE := Er.isE
  obtain ⟨h0, h0'⟩ := h0
  obtain ⟨h1, h1'⟩ := h1
  obtain ⟨⟨t1, t2⟩, hd, he1, he2⟩ := cellsOf_bd a0 a1
  go_enter Try.func3, Try.ntmps3
  go_wp2_with fail
  refine (known_true _).mono ?_; rintro e w1 ⟨rfl, F1⟩
  go_wp2_with fail
  refine (conf_any _ _ _ _).mono ?_; rintro e w2 ⟨rfl, F2⟩
  have c1 : a0 % 8 + 1 + 2 ≤ a0 % 8 + 1 + 2 + a1 % (16 - (a0 % 8 + 1) - 1) := by omega
  have c2 : a0 % 8 + 1 + 2 + a1 % (16 - (a0 % 8 + 1) - 1) ≤ 16 := by omega
  have G2 := F1.trans F2
  clear he1 he2 hd F1 F2
  generalize a0 % 8 + 1 + 2 + a1 % (16 - (a0 % 8 + 1) - 1) = c at c1 c2 ⊢
  generalize a0 % 8 + 1 = t at t1 t2 c1 ⊢
  obtain ⟨n, rfl⟩ := Int.eq_ofNat_of_zero_le (show 0 ≤ t by omega)
  obtain ⟨c, rfl⟩ := Int.eq_ofNat_of_zero_le (show 0 ≤ c by omega)
  go_wp2_with fail
  have k0 := Go.heap_alloc_new w2 (.cells #[.int .i64 n, .int .i64 c, .int .i64 500, .int .i64 1000] 24)
  have G3 := G2.alloc (.cells #[.int .i64 n, .int .i64 c, .int .i64 500, .int .i64 1000] 24)
  refine (is_ok n c 500 1000 (code_of t1 t2 c1 c2 (by omega) (by omega) (by rw [if_pos (by omega)])) _).mono ?_; rintro e w3 ⟨rfl, F3⟩
  have k3 := F3.heap k0 (by simp)
  have G4 := G3.trans F3
  clear k0 G3 G2 F3
  generalize w2.heap.size = bc at k3 ⊢
  go_wp2_with (with_reducible refine wpList_alloc500 rfl rfl ?_; intro Z hZ)
  have K := Keep.start (Z := Z) G4 k3
  have hbu : w.heap.size ≤ w3.heap.size := G4.size
  generalize w3.heap.size = bu at K hbu ⊢
  clear k3 G4
  go_loopw [8, 9] (fun v i wr => LL w Z bc bu n c 3 1 n v i wr) (fun _ i _ => n - (intOf i).toNat)
  case atStart => exact ⟨0, Nat.zero_le _, rfl, K⟩
  case round =>
    obtain ⟨k, hk, rfl, Kk⟩ := hrel
    clear K
    by_cases hlt : k < n
    · have hb := Kk.fr.size
      go_wp2_with (first | (go_at_call 8; refine (psa_any k (by omega) (by omega) _).mono ?_; rintro e _ ⟨rfl, rfl⟩) | (at_builtin; refine wpList_app rfl _ _ 30 rfl Try.underlying30 intInfo3 rfl (by decide) _ _ _ rfl (Kk.row.alloc _) rfl (Go.heap_alloc_new _ _) rfl (one_ints .i64 [3 + (k : Int)]) (by unfold maxLen; omega) (by omega) (by simp; omega) ?_; intro v' w' hr f))
      have K1 := (Kk.fresh ((Fr.refl [] _).alloc _)).more hr f (listing_one (by unfold listed; rw [if_pos (by omega)]; omega))
      clear hr f Kk hb
      go_roundw
      case rel => exact ⟨k + 1, by omega, by go_num, K1⟩
      case measure => simp [intOf]; omega
    · obtain rfl : n = k := by omega
      go_wp2_with fail
      rw [Nat.one_mul] at Kk
      go_loopw [8, 10] (fun v i wr => LL w Z bc bu n c (3 + n) 1 4 v i wr) (fun _ i _ => 4 - (intOf i).toNat)
      case atStart => exact ⟨0, Nat.zero_le _, rfl, Kk⟩
      case round =>
        obtain ⟨k, hk, rfl, Kq⟩ := hrel
        clear Kk
        by_cases hlt : k < 4
        · obtain ⟨g0, g1, g2, g3⟩ := cells4 Kq.conf
          go_wp2_with fail
          refine (hint_at n c 500 1000 k t1 t2 (by omega) (by omega) _).mono ?_; rintro e w5 ⟨rfl, F5⟩
          have K5 := Kq.fresh F5
          have hb := K5.fr.size
          clear F5 Kq g0 g1 g2 g3
          go_wp2_with (at_builtin; refine wpList_app rfl _ _ 30 rfl Try.underlying30 intInfo3 rfl (by decide) _ _ _ rfl (K5.row.alloc _) rfl (Go.heap_alloc_new _ _) rfl (one_ints .i64 [3 + (n : Int) + k]) (by unfold maxLen; omega) (by omega) (by simp; omega) ?_; intro v' w' hr f)
          have K1 := (K5.fresh ((Fr.refl [] _).alloc _)).more hr f (listing_one (by unfold listed; rw [if_pos (by omega)]; omega))
          clear hr f K5 hb
          go_roundw
          case rel => exact ⟨k + 1, by omega, by go_num, K1⟩
          case measure => simp [intOf]; omega
        · obtain rfl : k = 4 := by omega
          go_wp2_with fail
          have K0 : Keep w Z bc bu n c (n + 7) _ _ := (show 3 + n + 1 * 4 = n + 7 by omega) ▸ Kq
          clear Kq
          go_loopw [8, 11] (fun v i wr => LL w Z bc bu n c (n + 7) 2 7 v i wr) (fun _ i _ => 7 - (intOf i).toNat)
          case atStart => exact ⟨0, Nat.zero_le _, rfl, K0⟩
          case round =>
            obtain ⟨k, hk, rfl, Kq⟩ := hrel
            clear K0
            by_cases hlt : k < 7
            · have HC := Lib.hid Kq
              clear Kq
              go_wp2_with fail
              refine wp_region_env (by kernel_rfl) u8.ownBlock.toList (fun wa Fa => ?_)
              refine env_pass [true, true, true, true, true, true, true, true, true, false, false, false] 3 (n := 158) rfl (by kernel_rfl) (by kernel_rfl) (by kernel_rfl) rfl rfl (fun _ _ d _ _ h => by cases d <;> exact h) (Fa.mono (by simp)) ?_
              apply Exists.intro
              refine ⟨fun wf Ff => ?_, ?_⟩
              · obtain ⟨c0, c1, c2, c3⟩ := cells4 (Ff.heap HC.out.conf (row_ne HC.out.row HC.out.conf (by decide)))
                have k0 := In.cell c0
                have k1 := In.cell c1
                have k2 := In.cell c2
                have k3 := In.cell c3
                clear c0 c1 c2 c3 Ff
                simp only [sel]
                repeat (go_big_quiet_step ((first | (go_at_call 11; exact Calls.in_ (first_any _ _ _ _ t1 t2 _)) | (go_at_call 10; exact Calls.in_ (head_any _ _ _ _ t1 t2 _)))))
                exact wpQuiet_nil rfl
              have Ka := HC.out.fresh Fa
              have Da : Fr u8.ownBlock.toList _ _ := Fa.mono (by simp)
              refine env_one 9 (by kernel_rfl) rfl rfl (fun wb Fb => ?_)
              have Kb := Ka.fresh Fb
              have Db := Da.then Fb
              clear Ka Da Fb HC
              go_wp2_with fail
              refine nx_normal ⟨Db.alloc _, ?_⟩
              have Kc := Kb.fresh ((Fr.refl [] _).alloc (.cells #[.int .i64 (3 + n + 4 + k), .int .i64 (3 + n + 4 + 7 + k)] 3))
              have Dc := Db.alloc (.cells #[.int .i64 (3 + n + 4 + k), .int .i64 (3 + n + 4 + 7 + k)] 3)
              have Hc := Go.heap_alloc_new wb (.cells #[.int .i64 (3 + n + 4 + k), .int .i64 (3 + n + 4 + 7 + k)] 3)
              clear Kb Db
              refine env_one 10 (by kernel_rfl) rfl rfl (fun wd Fd => ?_)
              have Kd := Kc.fresh Fd
              have Dd := Dc.then Fd
              have Hd := Fd.heap Hc (by simp)
              have hb := Kd.fr.size
              clear Kc Dc Fd Hc
              refine wpList_app rfl _ _ 30 rfl Try.underlying30 intInfo3 rfl (by decide) _ _ _ rfl Kd.row rfl Hd rfl (one_ints .i64 [3 + n + 4 + k, 3 + n + 4 + 7 + k]) (by unfold maxLen; omega) (by omega) hb ?_
              intro v' w' hr f
              have K1 := Kd.more hr f (listing_two (by unfold listed; rw [if_neg (by omega), if_pos (by omega)]; omega) (by unfold listed; rw [if_neg (by omega), if_pos (by omega)]; omega))
              have D1 := Dd.trans (show Fr u8.ownBlock.toList _ _ from f)
              clear hr f Kd Dd Hd hb
              go_frame
              refine nx_normal ⟨D1, ?_⟩
              refine env_pass [false, false, false, false, false, false, false, false, false, false, false, true] 0 (n := 158) rfl (by kernel_rfl) (by kernel_rfl) (by kernel_rfl) rfl rfl (fun _ _ d _ _ h => by cases d <;> exact h) D1 ?_
              apply Exists.intro
              refine ⟨fun wf Ff => ?_, ?_⟩
              · simp only [sel]
                repeat (go_big_quiet_step (fail))
                exact wpQuiet_nil rfl
              refine env_done (by kernel_rfl) (fun we Fe => ?_)
              have K2 := K1.fresh Fe
              clear K1 D1 Fe
              go_wp2
              go_roundw
              case rel => exact ⟨k + 1, by omega, by go_num, K2⟩
              case measure => simp [intOf]; omega
            · obtain rfl : k = 7 := by omega
              go_wp2_with fail
              have K0 : Keep w Z bc bu n c (n + 21) _ _ := (show n + 7 + 2 * 7 = n + 21 by omega) ▸ Kq
              clear Kq
              go_loopw [8, 12] (fun v i wr => LL w Z bc bu n c (n + 21) 3 c v i wr) (fun _ i _ => c - (intOf i).toNat)
              case atStart => exact ⟨0, Nat.zero_le _, rfl, K0⟩
              case round =>
                obtain ⟨k, hk, rfl, Kq⟩ := hrel
                clear K0
                obtain ⟨g0, g1, g2, g3⟩ := cells4 Kq.conf
                by_cases hlt : k < c
                · go_wp2_with fail
                  refine (first_any n c 500 1000 t1 t2 _).mono ?_; rintro e w5 ⟨rfl, F5⟩
                  have K5 := Kq.fresh F5
                  have hb := K5.fr.size
                  clear F5 Kq g0 g1 g2 g3
                  go_wp2_with (first | (go_at_call 12; refine (state_any (3 + n + 4 + 7) k (by omega) (by omega) (by omega) (by omega) _).mono ?_; rintro e _ ⟨rfl, rfl⟩) | (at_builtin; refine wpList_app rfl _ _ 30 rfl Try.underlying30 intInfo3 rfl (by decide) _ _ _ rfl (K5.row.alloc _) rfl (Go.heap_alloc_new _ _) rfl (one_ints .i64 [3 + (n : Int) + 4 + 7 + 7 + 3 * k, 3 + (n : Int) + 4 + 7 + 7 + 3 * k + 1, 3 + (n : Int) + 4 + 7 + 7 + 3 * k + 2]) (by unfold maxLen; omega) (by omega) (by simp; omega) ?_; intro v' w' hr f))
                  have K1 := (K5.fresh ((Fr.refl [] _).alloc _)).more hr f (listing_three (by unfold listed; rw [if_neg (by omega), if_neg (by omega)]; omega) (by unfold listed; rw [if_neg (by omega), if_neg (by omega)]; omega) (by unfold listed; rw [if_neg (by omega), if_neg (by omega)]; omega))
                  clear hr f K5 hb
                  go_roundw
                  case rel => exact ⟨k + 1, by omega, by go_num, K1⟩
                  case measure => simp [intOf]; omega
                · obtain rfl : c = k := by omega
                  go_wp2_with fail
                  obtain ⟨m, hm⟩ : ∃ m, m = n + 21 + 3 * c := ⟨_, rfl⟩
                  rw [← hm] at Kq
                  obtain ⟨g, cap, rfl, _, hg⟩ := Kq.row.form (by omega)
                  have M0 := Marks.start hZ Kq
                  have HM := Lib.hid hm
                  have HB := Lib.hid hbu
                  clear g0 g1 g2 g3 Kq hm
                  go_loopw [14] (fun i wr => Marks w bc bu g n c cap m i wr) (fun i _ => m - (intOf i).toNat)
                  case atStart => exact M0
                  case round =>
                    obtain ⟨k, Y, hk, rfl, Kq, hs, hz⟩ := hrel
                    clear M0
                    have i0 : (0 : Int) ≤ (k : Int) := by omega
                    obtain ⟨g0, g1, g2, g3⟩ := cells4 Kq.conf
                    have hm' : m = n + 21 + 3 * c := HM.out
                    have hm2 : m ≤ 100 := by omega
                    by_cases hlt : k < m
                    · have hj := listed_lt (n := n) (m := m) (by omega) hlt
                      have hl : wr.cell? ⟨g, k, none⟩ = some (.int .i64 (listed n k : Nat)) := by rw [Kq.row.cellAt k (by omega)]; exact listing_at hlt
                      have hu : wr.cell? ⟨bu, listed n k, none⟩ = some (.int .i64 0) := by
                        rw [cell_of_row wr bu _ _ _ _ Kq.used]
                        exact hz _ (by omega) fun i hi e => by have := listed_inj e; omega
                      have b1 : decide ((listed n k : Int) < 0) = false := by simp
                      have b2 : decide (21 + (n : Int) + 3 * c ≤ (listed n k : Int)) = false := by simp; omega
                      have b3 : decide ((500 : Int) < 21 + (n : Int) + 3 * c) = false := by simp; omega
                      have b4 : (listed n k : Int) < 500 := by omega
                      have b5 : (0 : Int) ≤ (listed n k : Int) := by omega
                      have b6 : (k : Int) < (m : Int) := by omega
                      have HK := Lib.hid Kq
                      have HZ := Lib.hid hz
                      have HS := Lib.hid hs
                      clear Kq hz hs hm'
                      obtain ⟨j, ej⟩ : ∃ j, listed n k = j := ⟨_, rfl⟩
                      rw [ej] at hj hl hu b1 b2 b4 b5
                      have HJ := Lib.hid ej
                      clear ej
                      have q0 := In.cell g0
                      have q1 := In.cell g1
                      have q2 := In.cell g2
                      have q3 := In.cell g3
                      have q4 := In.cell hl
                      have q5 := In.cell hu
                      go_wp2_with fail
                      refine wp_region_in (by kernel_rfl) (by kernel_rfl) ?_
                      repeat (go_big_quiet_step ((go_at_call 13; exact Calls.in_ (top_any _ _ _ _ t1 t2 (by omega) c2 _))))
                      refine wpQuiet_nil ?_
                      intro w5 F5
                      have K5 := HK.out.fresh F5
                      have hl5 := F5.cell hl (by simp)
                      have hu5 := F5.cell hu (by simp)
                      have hf5 : w5.frozen? ⟨bu, j, none⟩ = false := frozen_of_row _ _ _ _ _ K5.used
                      have hstep := Marks.step HB.out hlt K5 HS.out HZ.out
                      rw [HJ.out] at hstep
                      have HT := Lib.hid hstep
                      clear K5 F5 q0 q1 q2 q3 q4 q5 g0 g1 g2 g3 hl hu hstep b1 b2 b3
                      go_wp2_with fail
                      go_roundw
                      case rel => exact HT.out
                      case measure => simp [intOf]; omega
                    · obtain rfl : m = k := by omega
                      have q0 := In.cell g0
                      have q1 := In.cell g1
                      have q2 := In.cell g2
                      have q3 := In.cell g3
                      have b1 : ((m : Int) == 21 + (n : Int) + 3 * c) = true := by simp <;> omega
                      have b2 : ((4 : Int) + n != 3 + n) = true := by simp <;> omega
                      have b3 : (21 + (n : Int) + 3 * c == 3 + n + 4 + 7 + (7 + 3 * c)) = true := by simp <;> omega
                      have HG := Lib.hid Kq.fr
                      clear Kq hs hz hm' g0 g1 g2 g3
                      go_wp2_with fail
                      refine wp_region_in (by kernel_rfl) (by kernel_rfl) ?_
                      repeat (go_big_quiet_step ((first | (go_at_call 13; exact Calls.in_ (top_any _ _ _ _ t1 t2 (by omega) c2 _)) | (go_at_call 11; exact Calls.in_ (first_any _ _ _ _ t1 t2 _)) | (go_at_call 14; exact Calls.in_ (size_any _ _ _ _ (by omega) c2 _)) | (go_at_call_of 9 (Value.int IntKind.i64 15); exact Calls.in_ (hint15 _ _ _ _ t1 t2 _)) | (go_at_call_of 9 (Value.int IntKind.i64 0); exact Calls.in_ (hint0 _ _ _ _ t1 t2 _)) | (go_at_call_of 9 (Value.int IntKind.i64 16); exact Calls.in_ (hint16 _ _ _ _ t1 t2 _)))))
                      refine wpQuiet_nil ?_
                      intro w5 F5
                      go_wp2
                      go_ret
                      exact ⟨rfl, HG.out.trans F5⟩
end Go.Proofs.Ytafmcilonpkpbaa.Pl
