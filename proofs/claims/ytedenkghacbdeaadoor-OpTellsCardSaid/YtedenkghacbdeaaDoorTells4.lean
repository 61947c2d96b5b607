/- The walk of OpTells. -/
import Derived.Test.YtedenkghacbdeaaDoorKnown4
import Derived.Test.YtedenkghacbdeaaDoorAsHit
import Derived.Deep.RegionWith
import Derived.Test.YtedenkghacbdeaaDoorRefScr
import Derived.Test.YtedenkghacbdeaaDoorRefSame
import Derived.Test.YtedenkghacbdeaaDoorRefAt
namespace Go.Proofs.YtedenkghacbdeaaDoor.Te
open Go.RowKit Go.Proofs.YtedenkghacbdeaaDoor.Ar Go.Proofs.YtedenkghacbdeaaDoor.Og
set_option linter.unusedVariables false
set_option linter.unusedSimpArgs false
theorem code_nil (w : World) : Calls Tryd.prog 11 #[.nilIface] w fun e w' => e = .returned (.int .i64 0) ∧ Fr [] w w' := by
  have isE := Er.isE
  go_enter Tryd.func11, Tryd.ntmps11
  go_wp2
  go_ret
  exact ⟨rfl, (Fr.refl _ _).alloc _⟩
theorem code_some (n : Int) (w : World) (h : Er.ErrType w) : Calls Tryd.prog 11 #[.iface 47 (.int .i64 n)] w fun e w' => e = .returned (.int .i64 n) ∧ Fr [] w w' := by
  have isE := Er.isE
  have h1 : Er.ErrType (w.alloc (.cells #[.int .i64 0] 47)) := h.kept ((Fr.refl [] w).alloc _) (by simp)
  go_enter Tryd.func11, Tryd.ntmps11
  go_wp2_with fail
  refine (Er.as_hit n w.heap.size (.int .i64 0) _ h1 (Go.heap_alloc_new w _)).mono ?_; rintro e w1 ⟨rfl, hc, F⟩
  have G := ((Fr.refl [] w).alloc _).own F (by simp)
  clear F h1
  go_wp2
  go_ret
  exact ⟨rfl, G⟩
theorem code_errv (n : Int) (w : World) (h : Er.ErrType w) : Calls Tryd.prog 11 #[Pl.errv n] w fun e w' => e = .returned (.int .i64 n) ∧ Fr [] w w' := by
  unfold Pl.errv
  split
  · rename_i h0; subst h0; exact code_nil w
  · exact code_some n w h
theorem op_eql (k i o n k' i' o' n' : Int) (W : World) : (binOp .eql 23 (.agg #[.int .i64 k, .int .i64 i, .int .i64 o, .int .i64 n]) (.agg #[.int .i64 k', .int .i64 i', .int .i64 o', .int .i64 n'])).run Tryd.prog W = .ok (.bool (k == k' && i == i' && o == o' && n == n')) W := by
  have u3 := Tryd.underlying3
  have a3 : (isAgg 3).run Tryd.prog W = .ok false W := by kernel_rfl
  have hS : Tryd.prog.underlying 23 = some (.struct (Tryd.prog.fieldsOf 23)) := by kernel_rfl
  have hp : Tryd.prog.stoodInHeld 23 = false := by kernel_rfl
  rw [run_eql_struct, show (10000 : Nat) = 9999 + 1 from rfl, run_equalIn_agg W 9999 23 _ _ hS hp]
  simp only [Program.fieldsOf, Tryd.underlying23]
  go_simp
  cases h1 : k == k' <;> cases h2 : i == i' <;> cases h3 : o == o' <;> cases h4 : n == n' <;> simp_all
theorem same_self (t c wd v : Int) (rs : List (List O)) (ps ds : List Int) : sameS t c wd v t c wd v rs rs ps ps ds ds = true := by unfold sameS; simp
/-- What lies there once all parameters are boxed. -/
structure KT (w v : World) (b : Nat) (X Y Z : Array Value) : Prop where
  g : Fr [] w v
  o : v.heap[b]? = some (.cells X 23 (0, 0))
  a : v.heap[b + 1]? = some (.cells Y 29 (0, 0))
  c : v.heap[b + 1 + 1]? = some (.cells Z 29 (0, 0))
theorem KT.up {w v v' : World} {b : Nat} {X Y Z : Array Value} (h : KT w v b X Y Z) (f : Fr [] v v') : KT w v' b X Y Z := ⟨h.g.trans f, heap_up f h.o, heap_up f h.a, heap_up f h.c⟩
theorem KT.start (w : World) (X Y Z : Array Value) : KT w (((w.alloc (.cells X 23)).alloc (.cells Y 29)).alloc (.cells Z 29)) w.heap.size X Y Z :=
  ⟨(((Fr.refl [] w).alloc _).alloc _).alloc _, Og.new_at (b := w.heap.size) rfl (((Fr.refl [] (w.alloc (.cells X 23))).alloc _).alloc _), Og.new_at (b := w.heap.size + 1) (size_alloc _ _) ((Fr.refl [] ((w.alloc (.cells X 23)).alloc (.cells Y 29))).alloc _),
    Og.new_at (b := w.heap.size + 1 + 1) ((size_alloc _ _).trans (congrArg (· + 1) (size_alloc _ _))) (Fr.refl [] (((w.alloc (.cells X 23)).alloc (.cells Y 29)).alloc (.cells Z 29)))⟩
set_option maxRecDepth 100000 in
set_option maxHeartbeats 8000000 in
theorem tells_true (o : O) (t c wd v t' c' wd' v' : Int) (rs rs' : List (List O)) (ps ps' ds ds' : List Int) (s s' : Value) (th i x : Int) (w : World) (hE : Er.ErrType w) (ho : wfO o) (hs : Scr w s t c wd v rs ps ds) (hs' : Scr w s' t' c' wd' v' rs' ps' ds') :
    Calls Tryd.prog 3 #[opv o, s, s', .int .i64 th, .int .i64 i, .int .i64 x] w fun e w' => e = .returned (.bool true) ∧ Fr [] w w' := by
  have HS := Lib.hid hs
  have HS' := Lib.hid hs'
  obtain ⟨vo, vp, vd, rfl, hr, hp, hd⟩ := hs
  obtain ⟨vo', vp', vd', rfl, hr', hp', hd'⟩ := hs'
  obtain ⟨a, cap, _, rfl, hl, -, -⟩ := hr
  obtain ⟨a2, cap2, _, rfl, hl2, -, -⟩ := hr'
  obtain ⟨a3, cap3, rfl, hl3, -, -⟩ := hp
  obtain ⟨a4, cap4, rfl, hl4, -, -⟩ := hp'
  clear hd hd'
  obtain ⟨o1, o2, o3, o4⟩ := o
  simp only [opv]
  have ho' : (Lit.int .i64 o1).wf = true := ho
  have isE := Er.isE
  have hlt := World.block_lt_of_cell? w _ hE
  go_enter Tryd.func3, Tryd.ntmps3
  have K0 := KT.start w #[.int .i64 o1, .int .i64 o2, .int .i64 o3, .int .i64 o4] #[.int .i64 t, .int .i64 c, .int .i64 wd, .int .i64 v, .slice a rs.length cap, .slice a3 ps.length cap3, vd] #[.int .i64 t', .int .i64 c', .int .i64 wd', .int .i64 v', .slice a2 rs'.length cap2, .slice a4 ps'.length cap4, vd']
  go_wp2_with fail
  refine (known_true _).mono ?_; rintro e w1 ⟨rfl, F⟩
  have K1 := K0.up F
  clear K0 F
  generalize w.heap.size = b0 at *
  obtain ⟨-, -, -, -, c4, c5, -⟩ := cells7 K1.a
  obtain ⟨-, -, -, -, d4, d5, -⟩ := cells7 K1.c
  by_cases h1 : 20 < rs.length
  · have g1 : decide ((rs.length : Int) > 20) = true := by simp; omega
    go_wp2; go_ret; exact ⟨rfl, K1.g⟩
  have g1 : decide ((rs.length : Int) > 20) = false := by simp; omega
  by_cases h2 : 20 < rs'.length
  · have g2 : decide ((rs'.length : Int) > 20) = true := by simp; omega
    go_wp2; go_ret; exact ⟨rfl, K1.g⟩
  have g2 : decide ((rs'.length : Int) > 20) = false := by simp; omega
  by_cases h3 : 30000 < ps.length
  · have g3 : decide ((ps.length : Int) > 30000) = true := by simp; omega
    go_wp2; go_ret; exact ⟨rfl, K1.g⟩
  have g3 : decide ((ps.length : Int) > 30000) = false := by simp; omega
  by_cases h4 : 30000 < ps'.length
  · have g4 : decide ((ps'.length : Int) > 30000) = true := by simp; omega
    go_wp2; go_ret; exact ⟨rfl, K1.g⟩
  have g4 : decide ((ps'.length : Int) > 30000) = false := by simp; omega
  clear h1 h2 h3 h4
  go_wp2_with fail
  refine (of_any x _).mono ?_; rintro e w' ⟨rfl, rfl⟩
  go_wp2_with fail
  refine (Ro.of_any x _).mono ?_; rintro e w' ⟨rfl, rfl⟩
  clear c4 c5 d4 d5 g1 g2 g3 g4
  obtain ⟨c0, c1, c2, c3, c4, c5, c6⟩ := cells7 K1.a
  generalize hu : opAt rs x = u
  obtain ⟨u1, u2, u3, u4⟩ := u
  generalize hz : has rs x = z
  go_wp2_with fail
  refine (at_any _ _ _ _ x _ _ _ _ _ (HS.out.up K1.g)).mono ?_; rintro e w2 ⟨rfl, F2⟩
  rw [hu, hz]
  simp only [opv]
  have F2' := F2.alloc (.cells #[.int .i64 u1, .int .i64 u2, .int .i64 u3, .int .i64 u4] 23)
  have K2 := K1.up F2'
  have U2 := Og.new_at (b := w2.heap.size) rfl (Fr.refl [] (w2.alloc (.cells #[.int .i64 u1, .int .i64 u2, .int .i64 u3, .int .i64 u4] 23)))
  clear c0 c1 c2 c3 c4 c5 c6 F2 F2' K1
  obtain ⟨c0, c1, c2, c3, c4, c5, c6⟩ := cells7 K2.a
  go_wp2_with fail
  generalize w2.alloc (.cells #[.int .i64 u1, .int .i64 u2, .int .i64 u3, .int .i64 u4] 23) = w3 at *
  generalize w2.heap.size = b2 at *
  refine (Ro.opAt_any _ _ _ _ x _ _ _ _ _ (HS.out.up K2.g)).mono ?_; rintro e w4 ⟨rfl, F4⟩
  rw [hu, hz]
  simp only [opv]
  have F4' := F4.alloc (.cells #[.int .i64 u1, .int .i64 u2, .int .i64 u3, .int .i64 u4] 23)
  have K4 := K2.up F4'
  have U4 := heap_up F4' U2
  have V4 := Og.new_at (b := w4.heap.size) rfl (Fr.refl [] (w4.alloc (.cells #[.int .i64 u1, .int .i64 u2, .int .i64 u3, .int .i64 u4] 23)))
  clear c0 c1 c2 c3 c4 c5 c6 F4 F4' K2 U2 hu hz
  obtain ⟨c0, c1, c2, c3, c4, c5, c6⟩ := cells7 K4.a
  obtain ⟨d0, d1, d2, d3, d4, d5, d6⟩ := cells7 K4.c
  obtain ⟨p0, p1, p2, p3⟩ := Pl.cells4 K4.o
  obtain ⟨q0, q1, q2, q3⟩ := Pl.cells4 U4
  obtain ⟨r0, r1, r2, r3⟩ := Pl.cells4 V4
  go_wp2_with fail
  generalize w4.alloc (.cells #[.int .i64 u1, .int .i64 u2, .int .i64 u3, .int .i64 u4] 23) = w5 at *
  generalize w4.heap.size = b4 at *
  replace c0 := In.cell c0; replace c1 := In.cell c1; replace c2 := In.cell c2; replace c3 := In.cell c3; replace c4 := In.cell c4; replace c5 := In.cell c5; replace c6 := In.cell c6
  replace d0 := In.cell d0; replace d1 := In.cell d1; replace d2 := In.cell d2; replace d3 := In.cell d3; replace d4 := In.cell d4; replace d5 := In.cell d5; replace d6 := In.cell d6
  replace p0 := In.cell p0; replace p1 := In.cell p1; replace p2 := In.cell p2; replace p3 := In.cell p3
  replace q0 := In.cell q0; replace q1 := In.cell q1; replace q2 := In.cell q2; replace q3 := In.cell q3
  replace r0 := In.cell r0; replace r1 := In.cell r1; replace r2 := In.cell r2; replace r3 := In.cell r3
  clear U4 V4
  have H1 : ∀ y : In w5, Calls Tryd.prog 9 #[.agg #[.int .i64 o1, .int .i64 o2, .int .i64 o3, .int .i64 o4]] y.at_ fun e w' => e = .returned (.bool (fit o1 o2 o3 o4)) ∧ Fr [] y.at_ w' := fun y => is_any o1 o2 o3 o4 _ ho'
  have H2 : ∀ y : In w5, Calls Tryd.prog 10 #[.agg #[.int .i64 o1, .int .i64 o2, .int .i64 o3, .int .i64 o4]] y.at_ fun e w' => e = .returned (.bool (fit o1 o2 o3 o4)) ∧ Fr [] y.at_ w' := fun y => Ro.isOp_any o1 o2 o3 o4 _
  have H3 := fun y : In w5 => script_any _ _ _ _ _ _ _ _ y.at_ (HS.out.up (K4.g.trans y.fr))
  have H4 := fun y : In w5 => Ro.isScript_any _ _ _ _ _ _ _ _ y.at_ (HS.out.up (K4.g.trans y.fr))
  have H5 := fun y : In w5 => same_any _ _ _ _ _ _ _ _ _ _ _ _ _ _ _ _ y.at_ (HS.out.up (K4.g.trans y.fr)) (HS'.out.up (K4.g.trans y.fr))
  have H6 := fun y : In w5 => Ro.sameScript_any _ _ _ _ _ _ _ _ _ _ _ _ _ _ _ _ y.at_ (HS.out.up (K4.g.trans y.fr)) (HS'.out.up (K4.g.trans y.fr))
  have H7 := fun y : In w5 => same_any _ _ _ _ _ _ _ _ _ _ _ _ _ _ _ _ y.at_ (HS.out.up (K4.g.trans y.fr)) (HS.out.up (K4.g.trans y.fr))
  simp only [same_self] at H7
  generalize scode t c wd v rs ps = sc at H3 H4
  generalize sameS t c wd v t' c' wd' v' rs rs' ps ps' ds ds' = sm at H5 H6
  generalize fit o1 o2 o3 o4 = fo at H1 H2
  have H8 := fun y : In w5 => code_errv sc y.at_ (hE.kept (K4.g.trans y.fr) (by simp))
  have H9 := fun y : In w5 => writer_any th i y.at_
  have H10 := fun y : In w5 => Ro.writerOf_any th i y.at_
  generalize wrOf th i = wr1 at H9 H10
  generalize thr x = tx at *
  generalize ind x = ix at *
  have hG := opGuard
  have hq := op_eql u1 u2 u3 u4 u1 u2 u3 u4
  simp only [beq_self_eq_true, Bool.and_self] at hq
  refine wp_region_in (by kernel_rfl) (by kernel_rfl) ?_
  repeat (go_big_quiet_step ((first | (go_at_call 9; exact Calls.in_ (H1 _)) | (go_at_call 10; exact Calls.in_ (H2 _)) | (go_at_call 12; exact Calls.in_ (H3 _)) | (go_at_call 13; exact Calls.in_ (H4 _)) | (go_at_call 11; exact Calls.in_ (H8 _)) | (go_at_call 15; exact Calls.in_ (H6 _)) | (go_at_call_of 14 (vd'); exact Calls.in_ (H5 _)) | (go_at_call 14; exact Calls.in_ (H7 _)) | (go_at_call 16; exact Calls.in_same (H9 _)) | (go_at_call 17; exact Calls.in_same (H10 _)))))
  refine wpQuiet_nil ?_
  intro w8 F8
  clear c0 c1 c2 c3 c4 c5 c6 d0 d1 d2 d3 d4 d5 d6 p0 p1 p2 p3 q0 q1 q2 q3 r0 r1 r2 r3 H1 H2 H3 H4 H5 H6 H7 H8 H9 H10 hq hG
  go_wp2
  go_ret
  exact ⟨rfl, K4.g.trans F8⟩
end Go.Proofs.YtedenkghacbdeaaDoor.Te
