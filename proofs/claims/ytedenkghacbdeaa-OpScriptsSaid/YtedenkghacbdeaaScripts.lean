/- The walk of OpScripts. -/
import Derived.Test.YtedenkghacbdeaaOwn4
import Derived.Stop.IfaceNil
namespace Go.Proofs.Ytedenkghacbdeaa.Og
open Go.RowKit Go.Maps Go.Proofs.Ytedenkghacbdeaa.Ar
set_option linter.unusedVariables false
set_option linter.unusedSimpArgs false
theorem recs_row {W : World} {v : Value} {len : Nat} {V : Nat → Nat → Value} (h : Law.Recs W 4 v len V) (hV : ∀ i, i < len → ∀ j, j < 4 → ∃ x : Int, V i j = .int .i64 x ∧ (Lit.int .i64 x).wf = true) : ∃ os, OpRow W v os := by
  obtain ⟨a, cap, rfl, hl, hc⟩ := h
  refine ⟨(List.range len).map fun i => (intOf (V i 0), intOf (V i 1), intOf (V i 2), intOf (V i 3)), a, cap, by simp, by simpa using hl, ?_, ?_⟩
  · intro o ho
    obtain ⟨i, hi, rfl⟩ := List.mem_map.1 ho
    obtain ⟨x, hx, hw⟩ := hV i (List.mem_range.1 hi) 0 (by decide)
    unfold wfO; simp only; rw [hx]; exact hw
  · rcases hc with h0 | ⟨b, off, rfl, hb, hx⟩
    · exact .inl (by simpa using h0)
    · refine .inr ⟨b, off, rfl, hb, fun i hi => ?_⟩
      have hi' : i < len := by simpa using hi
      have e : nthO ((List.range len).map fun i => (intOf (V i 0), intOf (V i 1), intOf (V i 2), intOf (V i 3))) i = (intOf (V i 0), intOf (V i 1), intOf (V i 2), intOf (V i 3)) := by
        unfold nthO; simp [List.getD_eq_getElem?_getD, hi']
      rw [e]
      have key : ∀ j, j < 4 → W.cell? ⟨b, off + (i * 4 + j), none⟩ = some (.int .i64 (intOf (V i j))) := fun j hj => by
        obtain ⟨x, h1, -⟩ := hV i hi' j hj
        rw [hx i hi' j hj, h1]; rfl
      exact ⟨by simpa using key 0 (by decide), by rw [Nat.add_assoc]; exact key 1 (by decide), by rw [Nat.add_assoc]; exact key 2 (by decide), by rw [Nat.add_assoc]; exact key 3 (by decide)⟩
def FOAt (w : World) (os : List O) (x : Value) (wr : World) : Prop := ∃ n : Nat, n ≤ os.length ∧ x = .int .i64 n ∧ Fr [] w wr ∧ ∀ i, i < n → fitO (nthO os i) = true
/-- Where the loop that appends rows stands. -/
def LsAt (w : World) (bs : Nat) (R : Int) (ov vp vd : Value) (i : Value) (wr : World) : Prop := ∃ (k : Nat) (v : Value), (k : Int) ≤ R ∧ i = .int .i64 k ∧ wr.ownsRow (bs + 1) 38 1 v k (List.replicate k ov) ∧
  wr.heap[bs]? = some (.cells #[.int .i64 3, .int .i64 5, .int .i64 300, .int .i64 1000, v, vp, vd] 34 (0, 0)) ∧ Fr [] w wr ∧ bs + 1 ≤ wr.heap.size
theorem own1s {p : Nat} {a b c : World} (h : Fr [] a b) (k : Fr [p] b c) (hp : a.heap.size ≤ p) : Fr [] a c := h.own k (fun i hi => by rw [List.mem_singleton.1 hi]; exact hp)
theorem sc_rows {k : Nat} {os : List O} {ps : List Int} (hf : os.all fitO = true) (hl : os.length ≤ 60) (hp : ps.length ≤ 300) : scode 3 5 300 1000 (List.replicate k os) ps = if k ≤ 3 then 0 else 12 := by
  rw [scode, if_pos (by decide +kernel)]
  have h1 : large 3 (List.replicate k os) ps = decide (3 < k) := by
    have e1 : decide (20000 < ps.length) = false := by simp; omega
    have e2 : long os = false := by unfold long; simp; omega
    have e3 : (List.replicate k os).any long = false := by
      rw [List.any_eq_false]; intro r hr; rw [List.eq_of_mem_replicate hr, e2]; simp
    unfold large; rw [e1, e3, List.length_replicate]
    simp
    omega
  have h2 : (List.replicate k os).all fitR = true := by
    rw [List.all_eq_true]; intro r hr; rw [List.eq_of_mem_replicate hr]; exact hf
  rw [h1, h2]
  by_cases h : k ≤ 3
  · rw [if_neg (by simp; omega), if_pos rfl, if_pos h]
  · rw [if_pos (by simp; omega), if_neg h]
theorem LsAt.step {w wr w' : World} {bs k : Nat} {R : Int} {v v' vp vd ov : Value} (hk : (k : Int) < R) (hw : w.heap.size ≤ bs) (hrow : wr.ownsRow (bs + 1) 38 1 v k (List.replicate k ov))
    (hb : wr.heap[bs]? = some (.cells #[.int .i64 3, .int .i64 5, .int .i64 300, .int .i64 1000, v, vp, vd] 34 (0, 0))) (G : Fr [] w wr) (hs : bs + 1 ≤ wr.heap.size)
    (hr : w'.ownsRow (bs + 1) 38 1 v' (k + 1) (List.replicate k ov ++ [ov])) (f : Fr v.ownBlock.toList (wr.alloc (.cells #[ov] 38)) w') :
    w'.heap[bs]? = some (.cells #[.int .i64 3, .int .i64 5, .int .i64 300, .int .i64 1000, v, vp, vd] 34 (0, 0)) ∧ (∀ j, w'.frozen? ⟨bs, j, none⟩ = false) ∧
    LsAt w bs R ov vp vd (.int .i64 ((k + 1 : Nat) : Int)) (w'.setCell ⟨bs, 4, none⟩ v') := by
  have f0 := (Fr.refl [] wr).alloc (.cells #[ov] 38)
  have hb' := f.heap (f0.heap hb (by simp)) (row_ne hrow hb (by decide))
  have fs : Fr [bs] w' (w'.setCell ⟨bs, 4, none⟩ v') := Fr.setCell _ (List.mem_singleton.2 rfl)
  refine ⟨hb', fun j => frozen_of_row _ _ _ _ _ hb', k + 1, v', by omega, rfl, ?_, ?_, ?_, ?_⟩
  · rw [List.replicate_succ']
    exact row_fr hr fs (fun g hg => by
      have := row_base hr g (by simpa using hg)
      simp; omega)
  · exact (heap_setCell_same _ _ _ _ _ _ hb').trans rfl
  · exact own1s ((G.trans f0).own f (fun i hi => Nat.le_trans hw (Nat.le_of_succ_le (row_base hrow i hi)))) fs hw
  · exact Nat.le_trans (Nat.le_trans (Nat.le_trans hs f0.size) f.size) fs.size
set_option maxRecDepth 100000 in
set_option maxHeartbeats 8000000 in
theorem scripts_true (os : List O) (ps ds : List Int) (r : Int) (v vp vd : Value) (w : World) (ho : OpRow w v os) (hp : Law.Ints w .i64 vp ps) (hd : Law.Ints w .i64 vd ds) (hr : 0 ≤ r ∧ r < 256) :
    Calls Try.prog 6 #[v, vp, vd, .int .u8 r] w fun e w' => e = .returned (.bool true) ∧ Fr [] w w' := by
  have iE := Er.isE
  have HO := Lib.hid ho
  have HP := Lib.hid hp
  have HD := Lib.hid hd
  obtain ⟨a, cap, rfl, hl, hw, hc⟩ := ho
  obtain ⟨a2, cap2, rfl, hl2, -, -⟩ := hp
  obtain ⟨a3, cap3, rfl, hl3, -, -⟩ := hd
  have HC := Lib.hid hc
  have HW := Lib.hid hw
  clear hc hw
  unfold maxLen at hl hl2 hl3
  go_enter Try.func6, Try.ntmps6
  go_wp2_with fail
  refine (known_true _).mono ?_; rintro e w1 ⟨rfl, F1⟩
  by_cases h1 : 60 < os.length
  · have g : decide ((os.length : Int) > 60) = true := by simp; omega
    go_wp2
    go_ret
    exact ⟨rfl, F1⟩
  have g1 : decide ((os.length : Int) > 60) = false := by simp; omega
  by_cases h2 : 300 < ps.length
  · have g : decide ((ps.length : Int) > 300) = true := by simp; omega
    go_wp2
    go_ret
    exact ⟨rfl, F1⟩
  have g2 : decide ((ps.length : Int) > 300) = false := by simp; omega
  by_cases h3 : 60 < ds.length
  · have g : decide ((ds.length : Int) > 60) = true := by simp; omega
    go_wp2
    go_ret
    exact ⟨rfl, F1⟩
  have g3 : decide ((ds.length : Int) > 60) = false := by simp; omega
  go_wp2_with fail
  clear g1 g2 g3
  go_loopw [9] (FOAt w os) (fun x _ => os.length - (intOf x).toNat)
  case atStart => exact ⟨0, Nat.zero_le _, rfl, F1, by omega⟩
  case round =>
    obtain ⟨n, hn, rfl, Fw, hi⟩ := hrel
    clear F1
    by_cases hlt : n < os.length
    · rcases HC.out with hz | ⟨b, off, rfl, hb, hcell⟩
      · omega
      obtain ⟨c0, c1, c2, c3⟩ := hcell n hlt
      have d0 := cell_up Fw c0
      have d1 := cell_up Fw c1
      have d2 := cell_up Fw c2
      have d3 := cell_up Fw c3
      have hwf : wfO (nthO os n) := HW.out _ (nthO_mem hlt)
      clear hcell c0 c1 c2 c3
      go_wp2_with fail
      refine (is_any _ _ _ _ _ hwf).mono ?_; rintro e w2 ⟨rfl, F2⟩
      clear d0 d1 d2 d3
      cases hg : fitO (nthO os n) with
      | false =>
        have hg' := hg
        unfold fitO at hg'
        rw [hg']
        go_wp2
        go_ret
        exact ⟨rfl, Fw.trans F2⟩
      | true =>
        have hg' := hg
        unfold fitO at hg'
        rw [hg']
        go_wp2
        go_roundw
        case rel =>
          refine ⟨n + 1, by omega, by go_num, Fw.trans F2, fun i hi' => ?_⟩
          by_cases hin : i = n
          · rw [hin]; exact hg
          · exact hi i (by omega)
        case measure => simp [intOf]; omega
    · obtain rfl : n = os.length := by omega
      have hfit : os.all fitO = true := all_nthO hi
      clear hi hn
      go_wp2_with fail
      refine (Pl.conf_any 3 5 300 _).mono ?_; rintro e w2 ⟨rfl, F2⟩
      have G2 := Fw.trans F2
      clear Fw F2
      go_wp2_with fail
      have hb3 := Go.heap_alloc_new w2 (.cells #[.int .i64 3, .int .i64 5, .int .i64 300, .int .i64 1000, .slice none 0 0, .slice a2 ps.length cap2, .slice a3 ds.length cap3] 34)
      have G3 := G2.alloc (.cells #[.int .i64 3, .int .i64 5, .int .i64 300, .int .i64 1000, .slice none 0 0, .slice a2 ps.length cap2, .slice a3 ds.length cap3] 34)
      have hrow0 : (w2.alloc (.cells #[.int .i64 3, .int .i64 5, .int .i64 300, .int .i64 1000, .slice none 0 0, .slice a2 ps.length cap2, .slice a3 ds.length cap3] 34)).ownsRow (w2.heap.size + 1) 38 1 (.slice none 0 0) 0 [] := ⟨rfl, .inl ⟨rfl, rfl⟩⟩
      have hs0 : w2.heap.size + 1 ≤ (w2.alloc (.cells #[.int .i64 3, .int .i64 5, .int .i64 300, .int .i64 1000, .slice none 0 0, .slice a2 ps.length cap2, .slice a3 ds.length cap3] 34)).heap.size := Nat.le_of_eq (size_alloc _ _).symm
      have hw2 : w.heap.size ≤ w2.heap.size := G2.size
      generalize (w2.alloc (.cells #[.int .i64 3, .int .i64 5, .int .i64 300, .int .i64 1000, .slice none 0 0, .slice a2 ps.length cap2, .slice a3 ds.length cap3] 34)) = w3 at *
      generalize w2.heap.size = bs at *
      clear G2
      go_loopw [11] (LsAt w bs (r % 6) (.slice a os.length cap) (.slice a2 ps.length cap2) (.slice a3 ds.length cap3)) (fun x _ => (r % 6).toNat - (intOf x).toNat)
      case atStart => exact ⟨0, _, by simp; omega, rfl, hrow0, hb3, G3, hs0⟩
      case round =>
        obtain ⟨k, u, hk, rfl, hrow, hb, G, hs⟩ := hrel
        clear hrow0 hb3 G3 hs0
        obtain ⟨a8, cap8, rfl, hk8, -⟩ := own_cell hrow
        unfold maxLen at hk8
        obtain ⟨c0, c1, c2, c3, c4, c5, c6⟩ := cells7 hb
        rename_i wr
        by_cases hlt : (k : Int) < r % 6
        · have c4' := cell_up ((Fr.refl [] wr).alloc (.cells #[(.slice a os.length cap)] 38)) c4
          go_wp2_with (at_builtin; refine wpList_app rfl _ _ 31 rfl Try.underlying31 rowInfo4 rfl (by decide) _ _ _ rfl (hrow.alloc _) rfl (Go.heap_alloc_new _ _) rfl (by simp [Value.oneCell']) (by unfold maxLen; omega) (by omega) (by rw [size_alloc]; omega) ?_; intro v' w' hr1 f; obtain ⟨e7, ez, e8⟩ := LsAt.step hlt hw2 hrow hb G hs hr1 f; obtain ⟨a9, cap9, rfl, -, -⟩ := own_cell hr1; obtain ⟨d0, d1, d2, d3, d4, d5, d6⟩ := cells7 e7; clear hr1 f hrow hb G hs e7)
          exact ⟨by rw [show ((k : Int) + 1) = ((k + 1 : Nat) : Int) by omega]; exact e8, by simp [intOf]; omega⟩
        · have hrk : r % 6 = k := by omega
          have hscr : Scr wr (.agg #[.int .i64 3, .int .i64 5, .int .i64 300, .int .i64 1000, .slice a8 k cap8, .slice a2 ps.length cap2, .slice a3 ds.length cap3]) 3 5 300 1000 (List.replicate k os) ps ds :=
            ⟨_, _, _, rfl, own_rows List.length_replicate hrow (fun i hi => by
              have hi' : i < k := by simpa using hi
              have e1 : (List.replicate k (Value.slice a os.length cap)).getD i undef = .slice a os.length cap := by simp [List.getD_eq_getElem?_getD, List.getElem?_replicate, hi']
              have e2 : nthR (List.replicate k os) i = os := by unfold nthR; simp [List.getD_eq_getElem?_getD, List.getElem?_replicate, hi']
              rw [e1, e2]
              exact HO.out.up G), ints_up HP.out G, ints_up HD.out G⟩
          have hsc := sc_rows (k := k) hfit (by omega) (by omega : ps.length ≤ 300)
          have k0 := In.cell c0
          have k1 := In.cell c1
          have k2 := In.cell c2
          have k3 := In.cell c3
          have k4 := In.cell c4
          have k5 := In.cell c5
          have k6 := In.cell c6
          clear c0 c1 c2 c3 c4 c5 c6 hrow hb hs
          by_cases hk3 : k ≤ 3
          · have gk : decide ((k : Int) ≤ 3) = true := by simp; omega
            rw [if_pos hk3] at hsc
            have HS : ∀ s : In wr, Calls Try.prog 11 #[.agg #[.int .i64 3, .int .i64 5, .int .i64 300, .int .i64 1000, .slice a8 k cap8, .slice a2 ps.length cap2, .slice a3 ds.length cap3]] s.at_ fun e w' => e = .returned .nilIface ∧ Fr [] s.at_ w' := fun s => by
              have := script_any _ _ _ _ _ _ _ _ _ (hscr.up s.fr)
              rw [hsc] at this
              exact this
            clear hscr hsc hk3
            go_wp2_with fail
            refine wp_region_in (by kernel_rfl) (by kernel_rfl) ?_
            repeat (go_big_quiet_step ((go_at_call 11; exact Calls.in_ (HS _))))
            refine wpQuiet_nil ?_
            intro w8 F8
            clear k0 k1 k2 k3 k4 k5 k6 HS
            go_wp2
            go_ret
            exact ⟨rfl, G.trans F8⟩
          · have gk : decide ((k : Int) ≤ 3) = false := by simp; omega
            rw [if_neg hk3] at hsc
            have HS : ∀ s : In wr, Calls Try.prog 11 #[.agg #[.int .i64 3, .int .i64 5, .int .i64 300, .int .i64 1000, .slice a8 k cap8, .slice a2 ps.length cap2, .slice a3 ds.length cap3]] s.at_ fun e w' => e = .returned (.iface 37 (.int .i64 12)) ∧ Fr [] s.at_ w' := fun s => by
              have := script_any _ _ _ _ _ _ _ _ _ (hscr.up s.fr)
              rw [hsc] at this
              exact this
            clear hscr hsc hk3
            go_wp2_with fail
            refine wp_region_in (by kernel_rfl) (by kernel_rfl) ?_
            repeat (go_big_quiet_step ((go_at_call 11; exact Calls.in_ (HS _))))
            refine wpQuiet_nil ?_
            intro w8 F8
            clear k0 k1 k2 k3 k4 k5 k6 HS
            go_wp2
            go_ret
            exact ⟨rfl, G.trans F8⟩
theorem scripts_recs (len : Nat) (V : Nat → Nat → Value) (ps ds : List Int) (r : Int) (v vp vd : Value) (w : World) (ho : Law.Recs w 4 v len V) (hV : ∀ i, i < len → ∀ j, j < 4 → ∃ x : Int, V i j = .int .i64 x ∧ (Lit.int .i64 x).wf = true) (hp : Law.Ints w .i64 vp ps) (hd : Law.Ints w .i64 vd ds) (hr : 0 ≤ r ∧ r < 256) :
    Calls Try.prog 6 #[v, vp, vd, .int .u8 r] w fun e w' => e = .returned (.bool true) ∧ Fr [] w w' := by
  obtain ⟨os, h⟩ := recs_row ho hV
  exact scripts_true os ps ds r v vp vd w h hp hd hr
end Go.Proofs.Ytedenkghacbdeaa.Og
