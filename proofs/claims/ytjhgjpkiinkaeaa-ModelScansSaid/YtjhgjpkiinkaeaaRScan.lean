/- The reference's map: a scan. -/
import Derived.Test.YtjhgjpkiinkaeaaRDo
namespace Go.Proofs.Ytjhgjpkiinkaeaa.Mp
open Go.RowKit Go.Proofs.Ytjhgjpkiinkaeaa.Ar Go.Proofs.Ytjhgjpkiinkaeaa.Og
set_option linter.unusedVariables false
set_option linter.unusedSimpArgs false
theorem pairInfo : (Try.prog.info? 48).map (fun i => (i.zero, i.size, i.bytes)) = some (some (.agg #[.int .i64 0, .int .i64 0]), 2, 16) := by kernel_rfl
def cells2 (o : Int × Int) : List Value := [.int .i64 o.1, .int .i64 o.2]
theorem flat_pair {os : List (Int × Int)} {i j : Nat} (hi : i < os.length) (hj : j < 2) : (os.flatMap cells2)[i * 2 + j]? = (cells2 (os.getD i (0, 0)))[j]? := by
  induction os generalizing i with
  | nil => simp at hi
  | cons o os ih =>
    rw [List.flatMap_cons]
    cases i with
    | zero =>
      rw [List.getElem?_append_left (by simp [cells2]; omega)]
      simp
    | succ i =>
      rw [List.getElem?_append_right (by simp [cells2]; omega)]
      have := ih (i := i) (by simpa using hi)
      rw [show (i + 1) * 2 + j - (cells2 o).length = i * 2 + j by simp [cells2]; omega, this]
      rfl
theorem own_pairs {w : World} {B : Nat} {v : Value} {os : List (Int × Int)} (h : w.ownsRow B 48 2 v os.length (os.flatMap cells2)) : PairRow w v os := by
  obtain ⟨a, cap, rfl, hl, hc⟩ := row_cell h
  refine ⟨a, cap, rfl, hl, ?_⟩
  rcases hc with h0 | ⟨g, rfl, hg, hx⟩
  · exact .inl h0
  · refine .inr ⟨g, 0, rfl, hg, fun i hi => ?_⟩
    rw [Nat.zero_add]
    exact ⟨hx (i * 2) _ ((flat_pair (j := 0) hi (by decide)).trans rfl), hx _ _ ((flat_pair (j := 1) hi (by decide)).trans rfl)⟩
theorem prs_succ (V : Nat → Int) (lo j : Nat) : prs V lo (j + 1) = prs V lo j ++ (if 0 ≤ V (lo + j) then [(((lo + j : Nat) : Int), V (lo + j))] else []) := rfl
/-- Where the loop over the keys stands: j of them are through. -/
structure SAt (w0 wr : World) (p b c : Nat) (V W : Nat → Int) (n m : Nat) (x : Int) (y : Int) (j : Nat) (v : Value) : Prop where
  row : wr.ownsRow (c + 1) 48 2 v (prs V n j).length ((prs V n j).flatMap cells2)
  bx : Boxed w0 wr b 4 n y m
  ans : wr.heap[c]? = some (.cells #[.int .i64 0, .bool false, .int .i64 0, .int .i64 (-1), .int .i64 0, v] 31 (0, 0))
  map : Rm wr p V W
  size : c + 1 ≤ wr.heap.size
def ScAt (w0 : World) (p b c : Nat) (V W : Nat → Int) (n m : Nat) (x y : Int) (u : Value) (wr : World) : Prop := ∃ j v, j ≤ m + 1 - n ∧ u = .int .i64 ((n + j : Nat) : Int) ∧ SAt w0 wr p b c V W n m x y j v
theorem Boxed.up {w v v' : World} {b : Nat} {k ky x t : Int} (h : Boxed w v b k ky x t) (f : Fr [] v v') : Boxed w v' b k ky x t := ⟨h.g.trans f, heapUp f h.o, heapUp f h.a⟩
theorem SAt.up {w0 wr w' : World} {p b c : Nat} {V W : Nat → Int} {n m : Nat} {x y : Int} {j : Nat} {v : Value} (h : SAt w0 wr p b c V W n m x y j v) (f : Fr [] wr w') : SAt w0 w' p b c V W n m x y j v :=
  ⟨row_keeps h.row f, h.bx.up f, heapUp f h.ans, h.map.kept f (by simp), Nat.le_trans h.size f.size⟩
theorem row_ne' {w : World} {B : Nat} {E : TypeId} {sz n p : Nat} {v : Value} {xs : List Value} (h : w.ownsRow B E sz v n xs) (hp : p < B) : p ∉ v.ownBlock.toList := fun hi => by
  have := row_base h p hi; omega
/-- One pair more: the row has grown, the answer's cell is as it was. -/
structure SAt1 (w0 wr : World) (p b c : Nat) (V W : Nat → Int) (n m : Nat) (y : Int) (j : Nat) (u v : Value) : Prop where
  row : wr.ownsRow (c + 1) 48 2 v (prs V n (j + 1)).length ((prs V n (j + 1)).flatMap cells2)
  bx : Boxed w0 wr b 4 n y m
  ans : wr.heap[c]? = some (.cells #[.int .i64 0, .bool false, .int .i64 0, .int .i64 (-1), .int .i64 0, u] 31 (0, 0))
  map : Rm wr p V W
  size : c + 1 ≤ wr.heap.size
theorem SAt1.up {w0 wr w' : World} {p b c : Nat} {V W : Nat → Int} {n m : Nat} {y : Int} {j : Nat} {u v : Value} (h : SAt1 w0 wr p b c V W n m y j u v) (f : Fr [] wr w') : SAt1 w0 w' p b c V W n m y j u v :=
  ⟨row_keeps h.row f, h.bx.up f, heapUp f h.ans, h.map.kept f (by simp), Nat.le_trans h.size f.size⟩
theorem Boxed.upS {S : List Nat} {w v v' : World} {b : Nat} {k ky x t : Int} (h : Boxed w v b k ky x t) (f : Fr S v v') (hb : w.heap.size = b) (hS : ∀ i, i ∈ S → b + 1 < i) : Boxed w v' b k ky x t :=
  ⟨h.g.own f (fun i hi => by have := hS i hi; omega), f.heap h.o (fun hi => by have := hS b hi; omega), f.heap h.a (fun hi => by have := hS (b + 1) hi; omega)⟩
theorem SAt.more {w0 we w' : World} {p c : Nat} {V W : Nat → Int} {n m : Nat} {x y : Int} {j k : Nat} {u v' : Value} (K : SAt w0 we p w0.heap.size c V W n m x y j u) (hkk : n + j = k) (hv : 0 ≤ V k) (hbc : w0.heap.size + 1 < c) (hpc : p < c + 1)
    (hr : w'.ownsRow (c + 1) 48 2 v' ((prs V n j).length + 1) ((prs V n j).flatMap cells2 ++ [.int .i64 k, .int .i64 (V k)])) (f : Fr u.ownBlock.toList we w') : SAt1 w0 w' p w0.heap.size c V W n m y j u v' := by
  have hb : ∀ i, i ∈ u.ownBlock.toList → c + 1 ≤ i := row_base K.row
  refine ⟨?_, K.bx.upS f rfl (fun i hi => by have := hb i hi; omega), f.heap K.ans (fun hi => by have := hb c hi; omega), K.map.kept f (fun hi => by have := hb p hi; omega), Nat.le_trans K.size f.size⟩
  subst hkk
  rw [prs_succ, if_pos hv, List.flatMap_append, List.length_append]
  exact hr
theorem SAt.skip {w0 we : World} {p b c : Nat} {V W : Nat → Int} {n m : Nat} {x y : Int} {j k : Nat} {u : Value} (K : SAt w0 we p b c V W n m x y j u) (hkk : n + j = k) (hv : ¬ 0 ≤ V k) : SAt w0 we p b c V W n m x y (j + 1) u := by
  refine ⟨?_, K.bx, K.ans, K.map, K.size⟩
  subst hkk
  rw [prs_succ, if_neg hv, List.append_nil]
  exact K.row
theorem SAt1.store {w0 wh : World} {p c : Nat} {V W : Nat → Int} {n m : Nat} {y : Int} {j : Nat} {u v : Value} (K : SAt1 w0 wh p w0.heap.size c V W n m y j u v) (hbc : w0.heap.size + 1 < c) (hpc : p < c) : SAt w0 (wh.setCell ⟨c, 5, none⟩ v) p w0.heap.size c V W n m 0 y (j + 1) v := by
  have fs : Fr [c] wh (wh.setCell ⟨c, 5, none⟩ v) := Fr.setCell _ (List.mem_singleton.2 rfl)
  refine ⟨row_fr K.row fs (fun g hg => ?_), K.bx.upS fs rfl (fun i hi => by rw [List.mem_singleton.1 hi]; omega), (heap_setCell_same _ c 5 _ _ v K.ans).trans rfl, K.map.kept fs (by simp; omega), Nat.le_trans K.size fs.size⟩
  have := row_base K.row g (by simpa using hg)
  simp; omega
set_option maxRecDepth 100000 in
set_option maxHeartbeats 8000000 in
theorem doR_scan (p n m : Nat) (V W : Nat → Int) (y wr : Int) (w : World) (hn : n < 64) (hm : m < 64) (h : fit 4 n y m = true) (R : Rm w p V W) :
    Calls Try.prog 13 #[.pointer (some ⟨p, 0, none⟩), .agg #[.int .i64 4, .int .i64 n, .int .i64 y, .int .i64 m], .int .i64 wr] w fun e w' => (∃ pv, e = .returned (ansv ⟨0, false, 0, -1, 0, scan V n m⟩ pv) ∧ PairRow w' pv (scan V n m) ∧ ∀ g, g ∈ pv.ownBlock.toList → w.heap.size ≤ g) ∧ Fr [] w w' := by
  go_enter Try.func13, Try.ntmps13
  go_wp2_with fail
  refine (Ro.isOp_any 4 n y m _).mono ?_; rintro e w1 ⟨rfl, F1⟩
  rw [h]
  have B := Boxed.start F1
  have hlt := R.lt
  have R1 := R.kept B.g (by simp)
  clear F1 R
  have f0 := (Fr.refl [] w1).alloc (.cells #[.int .i64 0, .bool false, .int .i64 0, .int .i64 (-1), .int .i64 0, .slice none 0 0] 31)
  have B2 := B.up f0
  have R2 := R1.kept f0 (by simp)
  obtain ⟨c0, c1, c2, c3⟩ := Pl.cells4 B.o
  obtain ⟨d0, d1, d2, d3⟩ := Pl.cells4 B2.o
  go_wp2_with fail
  have K0 : SAt w (w1.alloc (.cells #[.int .i64 0, .bool false, .int .i64 0, .int .i64 (-1), .int .i64 0, .slice none 0 0] 31)) p w.heap.size w1.heap.size V W n m 0 y 0 (.slice none 0 0) :=
    ⟨⟨rfl, .inl ⟨rfl, rfl⟩⟩, B2, Go.heap_alloc_new w1 _, R2, Nat.le_of_eq (sizeAlloc _ _).symm⟩
  have hbc : w.heap.size + 1 < w1.heap.size := (Array.getElem?_eq_some_iff.1 B.a).1
  clear B R1 f0 B2 R2 c0 c1 c2 c3 d0 d1 d2 d3
  generalize (w1.alloc (.cells #[.int .i64 0, .bool false, .int .i64 0, .int .i64 (-1), .int .i64 0, .slice none 0 0] 31)) = w2 at *
  generalize hce : w1.heap.size = c at K0 hbc ⊢
  have hpc : p < c := by have := hlt; omega
  go_loopw [8] (ScAt w p w.heap.size c V W n m 0 y) (fun x _ => m + 1 - (intOf x).toNat)
  case atStart => exact ⟨0, _, by omega, rfl, K0⟩
  case round =>
    obtain ⟨j, u, hj, rfl, K⟩ := hrel
    clear K0
    obtain ⟨d0, d1, d2, d3⟩ := Pl.cells4 K.bx.o
    obtain ⟨e0, e1, e2, e3, e4, e5⟩ := cells6 K.ans
    by_cases hlt2 : n + j ≤ m
    · have g : decide (((n + j : Nat) : Int) ≤ (m : Int)) = true := by simp; omega
      have hk : n + j < 64 := by omega
      have q0 := K.map.cellV hk
      generalize hkk : n + j = k at *
      by_cases hv : 0 ≤ V k
      · have g2 : decide (V k ≥ 0) = true := by simpa using hv
        have HK := Lib.hid K
        clear K
        go_wp2_with fail
        clear d0 d1 d2 d3 e0 e1 e2 e3 e4 e5 q0
        refine wp_region_env (by kernel_rfl) (c :: u.ownBlock.toList) (fun wa Fa => ?_)
        refine env_pass [true, false, true, true, true, true, true, true, true, true, false, false, false, false] 5 (n := 106) (listed' := #[true, false, true, true, true, true, true, true, true, true, false, false, false, false]) rfl (by kernel_rfl) (by kernel_rfl) (by kernel_rfl) rfl (by kernel_rfl) (fun _ _ d _ _ h => by cases d <;> exact h) (Fa.mono (by simp)) ?_
        apply Exists.intro
        refine ⟨fun wf Ff => ?_, ?_⟩
        · have Rf := HK.out.map.kept Ff (by simp only [List.mem_cons, not_or]; exact ⟨by omega, row_ne' HK.out.row (by omega)⟩)
          have k0 := In.cell (Rf.cellV hk)
          clear Rf
          simp only [sel]
          repeat (go_big_quiet_step (fail))
          exact wpQuiet_nil rfl
        have Ka := HK.out.up Fa
        have Da : Fr (c :: u.ownBlock.toList) wr wa := Fa.mono (by simp)
        refine env_ready [1, 10] (by kernel_rfl) (by simp) (fun wb Fb i hi o ho => ?_)
        have Kb := Ka.up Fb
        have Db := Da.then Fb
        clear Ka Da Fb HK Fa
        simp only [List.mem_cons, List.not_mem_nil, or_false] at hi
        rcases hi with rfl | rfl
        · obtain rfl := Option.some.inj ho
          have e5 := (cells6 Kb.ans).2.2.2.2.2
          go_wp2
          clear e5
          refine nx_normal ⟨Db, ?_⟩
          refine env_one 10 (by kernel_rfl) rfl rfl (fun wc Fc => ?_)
          have Kc := Kb.up Fc
          have Dc := Db.then Fc
          clear Kb Db Fc ho
          go_wp2_with fail
          have Kd := Kc.up ((Fr.refl [] wc).alloc (.cells #[.int .i64 k, .int .i64 (V k)] 48))
          have Dd := Dc.alloc (.cells #[.int .i64 k, .int .i64 (V k)] 48)
          have Hd := Go.heap_alloc_new wc (.cells #[.int .i64 k, .int .i64 (V k)] 48)
          refine nx_normal ⟨Dd, ?_⟩
          clear Kc Dc
          refine env_one 11 (by kernel_rfl) rfl rfl (fun we Fe => ?_)
          have Ke := Kd.up Fe
          have De := Dd.then Fe
          have He := Fe.heap Hd (by simp)
          clear Kd Dd Hd Fe
          refine wpList_app rfl _ _ 29 rfl Try.underlying29 pairInfo rfl (by decide) _ _ _ rfl Ke.row rfl He rfl (by intro z hz; simp at hz; rcases hz with rfl | rfl <;> rfl) (by have := prs_length V n j; unfold maxLen; omega) (by have := prs_length V n j; omega) Ke.size ?_
          intro v' w' hr f
          have K1 := Ke.more hkk hv hbc (by omega) hr f
          have D1 := De.trans ((show Fr u.ownBlock.toList we w' from f).mono (T := c :: u.ownBlock.toList) (by simp; intro a ha; exact .inr ha))
          obtain ⟨a9, cap9, rfl, -, -⟩ := row_cell hr
          clear hr f Ke De He
          go_frame
          refine nx_normal ⟨D1, ?_⟩
          refine env_one 12 (by kernel_rfl) rfl rfl (fun wg Fg => ?_)
          have K2 := K1.up Fg
          have D2 := D1.then Fg
          clear K1 D1 Fg
          go_wp2
          refine nx_normal ⟨D2, ?_⟩
          refine env_one 13 (by kernel_rfl) rfl rfl (fun wh Fh => ?_)
          have K3 := K2.up Fh
          have D3 := D2.then Fh
          clear K2 D2 Fh
          obtain ⟨e0, e1, e2, e3, e4, e5⟩ := cells6 K3.ans
          have z0 : ∀ j, wh.frozen? ⟨c, j, none⟩ = false := fun j => frozen_of_row _ _ _ _ _ K3.ans
          go_wp2
          have K4 := K3.store hbc hpc
          have D4 := D3.trans (Fr.setCell (S := c :: u.ownBlock.toList) (w := wh) (b := c) (i := 5) (.slice a9 ((prs V n j).length + 1) cap9) (by simp))
          clear e0 e1 e2 e3 e4 e5 z0 K3 D3
          refine nx_normal ⟨D4, ?_⟩
          refine env_done (by kernel_rfl) (fun wi Fi => ?_)
          have K5 := K4.up Fi
          clear K4 D4 Fi
          go_wp2
          exact ⟨⟨j + 1, _, by omega, by rw [← hkk]; go_num, K5⟩, by simp [intOf]; omega⟩
        · obtain rfl := Option.some.inj ho
          go_wp2_with fail
          have Kc := Kb.up ((Fr.refl [] wb).alloc (.cells #[.int .i64 k, .int .i64 (V k)] 48))
          have Dc := Db.alloc (.cells #[.int .i64 k, .int .i64 (V k)] 48)
          have Hc := Go.heap_alloc_new wb (.cells #[.int .i64 k, .int .i64 (V k)] 48)
          refine nx_normal ⟨Dc, ?_⟩
          clear Kb Db ho
          refine env_one 1 (by kernel_rfl) rfl rfl (fun wd Fd => ?_)
          have Kd := Kc.up Fd
          have Dd := Dc.then Fd
          have Hd := Fd.heap Hc (by simp)
          clear Kc Dc Hc Fd
          have e5 := (cells6 Kd.ans).2.2.2.2.2
          go_wp2
          clear e5
          refine nx_normal ⟨Dd, ?_⟩
          refine env_one 11 (by kernel_rfl) rfl rfl (fun we Fe => ?_)
          have Ke := Kd.up Fe
          have De := Dd.then Fe
          have He := Fe.heap Hd (by simp)
          clear Kd Dd Hd Fe
          refine wpList_app rfl _ _ 29 rfl Try.underlying29 pairInfo rfl (by decide) _ _ _ rfl Ke.row rfl He rfl (by intro z hz; simp at hz; rcases hz with rfl | rfl <;> rfl) (by have := prs_length V n j; unfold maxLen; omega) (by have := prs_length V n j; omega) Ke.size ?_
          intro v' w' hr f
          have K1 := Ke.more hkk hv hbc (by omega) hr f
          have D1 := De.trans ((show Fr u.ownBlock.toList we w' from f).mono (T := c :: u.ownBlock.toList) (by simp; intro a ha; exact .inr ha))
          obtain ⟨a9, cap9, rfl, -, -⟩ := row_cell hr
          clear hr f Ke De He
          go_frame
          refine nx_normal ⟨D1, ?_⟩
          refine env_one 12 (by kernel_rfl) rfl rfl (fun wg Fg => ?_)
          have K2 := K1.up Fg
          have D2 := D1.then Fg
          clear K1 D1 Fg
          go_wp2
          refine nx_normal ⟨D2, ?_⟩
          refine env_one 13 (by kernel_rfl) rfl rfl (fun wh Fh => ?_)
          have K3 := K2.up Fh
          have D3 := D2.then Fh
          clear K2 D2 Fh
          obtain ⟨e0, e1, e2, e3, e4, e5⟩ := cells6 K3.ans
          have z0 : ∀ j, wh.frozen? ⟨c, j, none⟩ = false := fun j => frozen_of_row _ _ _ _ _ K3.ans
          go_wp2
          have K4 := K3.store hbc hpc
          have D4 := D3.trans (Fr.setCell (S := c :: u.ownBlock.toList) (w := wh) (b := c) (i := 5) (.slice a9 ((prs V n j).length + 1) cap9) (by simp))
          clear e0 e1 e2 e3 e4 e5 z0 K3 D3
          refine nx_normal ⟨D4, ?_⟩
          refine env_done (by kernel_rfl) (fun wi Fi => ?_)
          have K5 := K4.up Fi
          clear K4 D4 Fi
          go_wp2
          exact ⟨⟨j + 1, _, by omega, by rw [← hkk]; go_num, K5⟩, by simp [intOf]; omega⟩
      · have g2 : decide (V k ≥ 0) = false := by simpa using hv
        have K5 := K.skip hkk hv
        clear K
        go_wp2
        exact ⟨⟨j + 1, _, by omega, by rw [← hkk]; go_num, K5⟩, by simp [intOf]; omega⟩
    · have g : decide (((n + j : Nat) : Int) ≤ (m : Int)) = false := by simp; omega
      have hsc : scan V n m = prs V n j := by unfold scan; rw [show m + 1 - n = j by omega]
      obtain ⟨a9, cap9, rfl, -, -⟩ := row_cell K.row
      obtain ⟨a0, a1, a2, a3, a4, a5⟩ := cells6 K.bx.a
      have z0 : ∀ j, wr.frozen? ⟨w.heap.size + 1, j, none⟩ = false := fun j => frozen_of_row _ _ _ _ _ K.bx.a
      go_wp2
      have hc := set6_heap K.bx.a (.int .i64 0) (.bool false) (.int .i64 0) (.int .i64 (-1)) (.int .i64 0) (.slice a9 (prs V n j).length cap9)
      have ff := set6_fr wr (w.heap.size + 1) (.int .i64 0) (.bool false) (.int .i64 0) (.int .i64 (-1)) (.int .i64 0) (.slice a9 (prs V n j).length cap9)
      unfold set6 at hc ff
      generalize ((((((wr.setCell ⟨w.heap.size + 1, 0, none⟩ (.int .i64 0)).setCell ⟨w.heap.size + 1, 1, none⟩ (.bool false)).setCell ⟨w.heap.size + 1, 2, none⟩ (.int .i64 0)).setCell ⟨w.heap.size + 1, 3, none⟩ (.int .i64 (-1))).setCell ⟨w.heap.size + 1, 4, none⟩ (.int .i64 0)).setCell ⟨w.heap.size + 1, 5, none⟩ (.slice a9 (prs V n j).length cap9)) = w9 at *
      have hrow := own_pairs (row_fr K.row ff (fun g hg => by
        have := row_base K.row g (by simpa using hg)
        simp; omega))
      have G9 := ownOne K.bx.g ff (by omega)
      have hnew : ∀ g, g ∈ (Value.slice a9 (prs V n j).length cap9).ownBlock.toList → w.heap.size ≤ g := fun g hg => by have := row_base K.row g hg; omega
      obtain ⟨y0, y1, y2, y3, y4, y5⟩ := cells6 hc
      rw [hsc]
      exact bodyPost_ret (v := ansv ⟨0, false, 0, -1, 0, prs V n j⟩ (.slice a9 (prs V n j).length cap9)) (by simp [results, Try.results13, go_sem, ansv, y0, y1, y2, y3, y4, y5]) rfl ⟨⟨_, rfl, hrow, hnew⟩, G9⟩
end Go.Proofs.Ytjhgjpkiinkaeaa.Mp
