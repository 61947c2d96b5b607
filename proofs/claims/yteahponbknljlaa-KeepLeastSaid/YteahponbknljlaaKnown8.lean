/- Layer 8's known case. -/
import Derived.Test.YteahponbknljlaaOpen8
import Derived.Test.YteahponbknljlaaRLat8
namespace Go.Proofs.Yteahponbknljlaa.Kp
open Go.RowKit Go.Proofs.Yteahponbknljlaa.Ar Go.Proofs.Yteahponbknljlaa.Mx
set_option linter.unusedVariables false
set_option linter.unusedSimpArgs false
def K5 : List It := [⟨5, 2, 1⟩, ⟨5, 1, 2⟩, ⟨3, 4, 3⟩, ⟨5, 2, 4⟩, ⟨5, 9, 5⟩]
theorem k5_sort : sortT K5 = [⟨3, 4, 3⟩, ⟨5, 1, 2⟩, ⟨5, 2, 1⟩, ⟨5, 2, 4⟩, ⟨5, 9, 5⟩] := by decide +kernel
theorem k5_lat : latT K5 5 8 = some ⟨5, 2, 4⟩ := by decide +kernel
theorem k5_none : latT K5 5 0 = none := by decide +kernel
theorem k5_k0 : (keepT K5 []).length = 2 := by decide +kernel
theorem k5_k1 : (keepT K5 [2, 3]).length = 3 := by decide +kernel
theorem k5_k2 : (keepT K5 [1, 2]).length = 4 := by decide +kernel
theorem k5_keys : keysT K5 = [3, 5] := by decide +kernel
theorem k5_wf : ∀ x, x ∈ K5 → Wf x.k x.v := by
  intro x hx
  simp only [K5, List.mem_cons, List.not_mem_nil, or_false] at hx
  rcases hx with rfl | rfl | rfl | rfl | rfl <;> exact ⟨by decide, by decide⟩
theorem slice_of {f : It → List Value} {w : World} {B : Nat} {E : TypeId} {u : Value} {xs : List It} (h : w.ownsRow B E 3 u xs.length (xs.flatMap f)) : ∃ a c, u = .slice a xs.length c := by
  rcases h.2 with ⟨rfl, h0⟩ | ⟨g, cap, cur, rfl, _⟩
  · exact ⟨none, 0, by rw [h0]⟩
  · exact ⟨_, _, rfl⟩
theorem lat58 (v : Value) (w : World) (h : Sq fT w v K5) : Calls Try.prog 10 #[v, .int .i64 5, .int .i64 8] w fun e w' => e = .returned (.tuple #[.agg #[.int .i64 5, .int .i64 2, .int .i64 4], .bool true]) ∧ Fr [] w w' := by
  have := latest8_any K5 v 5 8 w (by decide) h
  rw [k5_lat] at this; exact this
theorem lat50 (v : Value) (w : World) (h : Sq fT w v K5) : Calls Try.prog 10 #[v, .int .i64 5, .int .i64 0] w fun e w' => e = .returned (.tuple #[.agg #[.int .i64 0, .int .i64 0, .int .i64 0], .bool false]) ∧ Fr [] w w' := by
  have := latest8_any K5 v 5 0 w (by decide) h
  rw [k5_none] at this; exact this
theorem keepN (vs : List Int) (n : Nat) (v u : Value) (w : World) (hv : vs.length ≤ 1000) (h : Sq fT w v K5) (hu : Sq fI w u vs) (hn : (keepT K5 vs).length = n) : Calls Try.prog 15 #[v, u] w fun e w' => (∃ a c, e = .returned (.slice a n c)) ∧ Fr [] w w' := by
  refine (keep8_any K5 vs v u w (by decide) hv k5_wf h hu).mono ?_
  rintro e w' ⟨⟨r, rfl, hr⟩, F⟩
  obtain ⟨a, c, rfl⟩ := slice_of hr
  rw [hn]
  exact ⟨⟨a, c, rfl⟩, F⟩
set_option maxRecDepth 100000 in
set_option maxHeartbeats 6400000 in
theorem known_any (w : World) : Calls Try.prog 9 #[] w fun e w' => e = .returned (.bool true) ∧ Fr [] w w' := by
  go_enter Try.func9, Try.ntmps9
  go_wp2_with fail
  have B5 := Go.heap_alloc_new w (.cells #[.int .i64 5, .int .i64 2, .int .i64 1, .int .i64 5, .int .i64 1, .int .i64 2, .int .i64 3, .int .i64 4, .int .i64 3, .int .i64 5, .int .i64 2, .int .i64 4, .int .i64 5, .int .i64 9, .int .i64 5] 26)
  have F0 := (Fr.refl [] w).alloc (.cells #[.int .i64 5, .int .i64 2, .int .i64 1, .int .i64 5, .int .i64 1, .int .i64 2, .int .i64 3, .int .i64 4, .int .i64 3, .int .i64 5, .int .i64 2, .int .i64 4, .int .i64 5, .int .i64 9, .int .i64 5] 26)
  have S5 : Sq fT _ (.slice (some ⟨w.heap.size, 0, none⟩) 5 5) K5 := Sq.block B5 rfl rfl (Nat.le_refl _) (by simp [maxLen])
  clear B5
  generalize World.alloc w _ = w1 at *
  have hp : ∃ p, p = w.heap.size := ⟨_, rfl⟩
  obtain ⟨p, hp⟩ := hp
  rw [← hp] at S5 ⊢
  clear hp
  have H := sort8_any K5 _ w1 (by decide) S5
  rw [k5_sort] at H
  refine H.mono ?_
  rintro e w2 ⟨⟨u2, rfl, r2⟩, F2⟩
  clear H
  obtain ⟨a2, c2, rfl⟩ := slice_of r2
  have T2 := Sq.own (f := fT) r2
  have S52 := S5.up F2
  have F02 := F0.trans F2
  clear r2 S5 F0 F2
  go_wp2_with fail
  refine (lat58 _ _ S52).mono ?_
  rintro e w3 ⟨rfl, F3⟩
  have T3 := T2.up F3
  have S53 := S52.up F3
  have F03 := F02.trans F3
  clear T2 S52 F02 F3
  go_wp2_with fail
  have E3 := (Fr.refl [] w3).alloc (.cells #[.int .i64 5, .int .i64 2, .int .i64 4] 26)
  obtain ⟨-, -, q2⟩ := cells3 (Go.heap_alloc_new w3 (.cells #[.int .i64 5, .int .i64 2, .int .i64 4] 26))
  generalize World.alloc w3 _ = w4 at *
  generalize w3.heap.size = q at *
  refine (lat50 _ _ (S53.up E3)).mono ?_
  rintro e w5 ⟨rfl, F5⟩
  have F05 := (F03.trans E3).trans F5
  have E5 := (Fr.refl [] w5).alloc (.cells #[.int .i64 0, .int .i64 0, .int .i64 0] 26)
  have Q5 := (F5.trans E5).cell q2 (by simp)
  have T5 := T3.up (E3.trans (F5.trans E5))
  have S55 := S53.up (E3.trans (F5.trans E5))
  have F06 := F05.trans E5
  clear F03 E3 F5 q2 T3 S53 F05 E5
  obtain ⟨g2, o2, e2, x0, -, -⟩ := it_cells T5 (i := 0) rfl
  obtain ⟨g3, o3, e3, -, -, y2⟩ := it_cells T5 (i := 1) rfl
  obtain ⟨g4, o4, e4, -, -, z2⟩ := it_cells T5 (i := 2) rfl
  subst e2
  cases e3
  cases e4
  clear T5
  simp only [Nat.zero_mul, Nat.one_mul, Nat.add_zero] at x0 y2 z2
  go_wp2_with fail
  generalize World.alloc w5 _ = w6 at *
  generalize w5.heap.size = q5 at *
  clear Q5 x0 y2 z2
  refine (keepN [] 2 _ _ w6 (by decide) S55 (Sq.nil _) k5_k0).mono ?_
  rintro e w7 ⟨⟨a7, c7, rfl⟩, F7⟩
  have S57 := S55.up F7
  have F07 := F06.trans F7
  clear S55 F06 F7
  go_wp2_with fail
  have E8 := (Fr.refl [] w7).alloc (.cells #[.int .i64 2, .int .i64 3] 3)
  have I8 : Sq fI _ (.slice (some ⟨w7.heap.size, 0, none⟩) 2 2) [2, 3] := Sq.block (Go.heap_alloc_new w7 (.cells #[.int .i64 2, .int .i64 3] 3)) rfl rfl (Nat.le_refl _) (by simp [maxLen])
  have S58 := S57.up E8
  have F08 := F07.trans E8
  clear S57 F07 E8
  generalize World.alloc w7 _ = w8 at *
  generalize w7.heap.size = q7 at *
  refine (keepN [2, 3] 3 _ _ w8 (by decide) S58 I8 k5_k1).mono ?_
  rintro e w9 ⟨⟨a9, c9, rfl⟩, F9⟩
  have S59 := S58.up F9
  have F09 := F08.trans F9
  clear S58 F08 F9 I8
  go_wp2_with fail
  have E10 := (Fr.refl [] w9).alloc (.cells #[.int .i64 1, .int .i64 2] 3)
  have I10 : Sq fI _ (.slice (some ⟨w9.heap.size, 0, none⟩) 2 2) [1, 2] := Sq.block (Go.heap_alloc_new w9 (.cells #[.int .i64 1, .int .i64 2] 3)) rfl rfl (Nat.le_refl _) (by simp [maxLen])
  have S510 := S59.up E10
  have F010 := F09.trans E10
  clear S59 F09 E10
  generalize World.alloc w9 _ = w10 at *
  generalize w9.heap.size = q9 at *
  refine (keepN [1, 2] 4 _ _ w10 (by decide) S510 I10 k5_k2).mono ?_
  rintro e w11 ⟨⟨a11, c11, rfl⟩, F11⟩
  have S511 := S510.up F11
  have F011 := F010.trans F11
  clear S510 F010 F11 I10
  go_wp2_with fail
  have H := keys8_any K5 _ w11 (by decide) (fun x hx => (k5_wf x hx).1) S511
  rw [k5_keys] at H
  refine H.mono ?_
  rintro e w12 ⟨⟨u12, rfl, r12⟩, F12⟩
  clear H
  have F012 := F011.trans F12
  clear S511 F011 F12
  have I12 := Sq.own (f := fI) r12
  clear r12
  go_wp2_with fail
  have E13 := (Fr.refl [] w12).alloc (.cells #[.int .i64 3, .int .i64 5] 3)
  have I13 : Sq fI _ (.slice (some ⟨w12.heap.size, 0, none⟩) 2 2) [3, 5] := Sq.block (Go.heap_alloc_new w12 (.cells #[.int .i64 3, .int .i64 5] 3)) rfl rfl (Nat.le_refl _) (by simp [maxLen])
  have I14 := I12.up E13
  have F013 := F012.trans E13
  clear I12 F012 E13
  generalize World.alloc w12 _ = w13 at *
  generalize w12.heap.size = q12 at *
  refine (sameI_any [3, 5] [3, 5] _ _ w13 (by decide) (by decide) I14 I13).mono ?_
  rintro e w14 ⟨rfl, F14⟩
  have F014 := F013.trans F14
  clear I13 I14 F013 F14
  go_wp2_with fail
  go_ret
  exact ⟨rfl, F014⟩
end Go.Proofs.Yteahponbknljlaa.Kp
