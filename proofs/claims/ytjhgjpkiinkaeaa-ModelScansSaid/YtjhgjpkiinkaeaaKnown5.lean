/- The small map that each law of layer 5 plays first. -/
import Derived.Test.YtjhgjpkiinkaeaaRDoAny
namespace Go.Proofs.Ytjhgjpkiinkaeaa.Mp
open Go.RowKit Go.Proofs.Ytjhgjpkiinkaeaa.Ar Go.Proofs.Ytjhgjpkiinkaeaa.Og
set_option linter.unusedVariables false
set_option linter.unusedSimpArgs false
theorem pair_eql (k i : Int) (W : World) : (binOp .eql 48 (.agg #[.int .i64 k, .int .i64 i]) (.agg #[.int .i64 k, .int .i64 i])).run Try.prog W = .ok (.bool true) W := by
  have u3 := Try.underlying3
  have a3 : (isAgg 3).run Try.prog W = .ok false W := by kernel_rfl
  have hS : Try.prog.underlying 48 = some (.struct (Try.prog.fieldsOf 48)) := by kernel_rfl
  have hp : Try.prog.stoodInHeld 48 = false := by kernel_rfl
  rw [run_eql_struct, show (10000 : Nat) = 9999 + 1 from rfl, run_equalIn_agg W 9999 48 _ _ hS hp]
  simp only [Program.fieldsOf, Try.underlying48]
  go_simp
theorem field_code (a : Int) (b : Bool) (c d e : Int) (pv : Value) (W : World) : (Instr.field 31 (.agg #[.int .i64 a, .bool b, .int .i64 c, .int .i64 d, .int .i64 e, pv]) 0).run Try.prog W = .ok (.int .i64 a) W := by kernel_rfl
variable {Mo : World → Nat → List Nat → (Nat → Int) → (Nat → Int) → Prop}
/-- A map that a call of ours made, of blocks B, and what it holds. -/
structure Mine (Mo : World → Nat → List Nat → (Nat → Int) → (Nat → Int) → Prop) (w v : World) (q : Nat) (B : List Nat) (V W : Nat → Int) : Prop where
  mo : Mo v q B V W
  own : ∀ b, b ∈ B → w.heap.size ≤ b
  g : Fr [] w v
theorem Mine.up (C : MapC Mo) {w v v' : World} {q : Nat} {B : List Nat} {V W : Nat → Int} (h : Mine Mo w v q B V W) (f : Fr [] v v') : Mine Mo w v' q B V W := ⟨C.kept h.mo f (by simp), h.own, h.g.trans f⟩
/-- A new map. -/
theorem mine_new (C : MapC Mo) (w v : World) (g : Fr [] w v) : Calls Try.prog 9 #[] v fun e w' => ∃ q B, e = .returned (.pointer (some ⟨q, 0, none⟩)) ∧ Mine Mo w w' q B none1 none1 ∧ (∀ b, b ∈ B → v.heap.size ≤ b) ∧ Fr [] v w' := by
  refine (C.new v).mono ?_
  rintro e w' ⟨q, B, rfl, hB, hM, F⟩
  exact ⟨q, B, rfl, ⟨hM, fun b hb => Nat.le_trans g.size (hB b hb), g.trans F⟩, hB, F⟩
/-- What a map is made of grows by new blocks alone. -/
def Grows (v : World) (B B' : List Nat) : Prop := ∀ b, b ∈ B' → b ∈ B ∨ v.heap.size ≤ b
theorem Grows.off {v : World} {B B' : List Nat} (h : Grows v B B') {b : Nat} (hb : b ∉ B) (hl : b < v.heap.size) : b ∉ B' := fun hi => by
  rcases h b hi with h1 | h1
  · exact hb h1
  · omega
/-- An op, on a map of ours. -/
theorem mine_do (C : MapC Mo) {w v : World} {q : Nat} {B : List Nat} {V W : Nat → Int} (k ky x t wr : Int) (hk : (Lit.int .i64 k).wf = true) (hw : (Lit.int .i64 wr).wf = true) (h : Mine Mo w v q B V W) :
    Calls Try.prog 12 #[.pointer (some ⟨q, 0, none⟩), .agg #[.int .i64 k, .int .i64 ky, .int .i64 x, .int .i64 t], .int .i64 wr] v fun e w' => ∃ pv B', e = .returned (ansv (ans V W k ky x t) pv) ∧ PairRow w' pv (ans V W k ky x t).pairs ∧ (∀ g, g ∈ pv.ownBlock.toList → v.heap.size ≤ g ∧ g ∉ B') ∧ Mine Mo w w' q B' (nxV V k ky x t) (nxW W k ky x t wr) ∧ Grows v B B' ∧ Fr B v w' := by
  refine (C.do_ q B V W k ky x t wr v hk hw h.mo).mono ?_
  rintro e w' ⟨pv, B', rfl, hp, hg, hM, hB', F⟩
  refine ⟨pv, B', rfl, hp, hg, ⟨hM, fun b hb => ?_, h.g.own F h.own⟩, hB', F⟩
  rcases hB' b hb with h1 | h1
  · exact h.own b h1
  · exact Nat.le_trans h.g.size h1
theorem heapOff {S : List Nat} {w w' : World} (f : Fr S w w') {b : Nat} {o : Obj} (hb : b ∉ S) (h : w.heap[b]? = some o) : w'.heap[b]? = some o := f.heap h hb
/-- What lies in a block that is no part of the map. -/
def Keep (v : World) (B : List Nat) (b : Nat) (o : Obj) : Prop := v.heap[b]? = some o ∧ b ∉ B
theorem Keep.lt {v : World} {B : List Nat} {b : Nat} {o : Obj} (h : Keep v B b o) : b < v.heap.size := (Array.getElem?_eq_some_iff.1 h.1).1
theorem Keep.step {v w' : World} {B B' : List Nat} {b : Nat} {o : Obj} (h : Keep v B b o) (g : Grows v B B') (f : Fr B v w') : Keep w' B' b o := ⟨f.heap h.1 h.2, g.off h.2 h.lt⟩
theorem Keep.up {v w' : World} {B : List Nat} {b : Nat} {o : Obj} (h : Keep v B b o) (f : Fr [] v w') : Keep w' B b o := ⟨heapUp f h.1, h.2⟩
theorem Keep.new (C : MapC Mo) {w v : World} {q : Nat} {B : List Nat} {V W : Nat → Int} (h : Mine Mo w v q B V W) (o : Obj) : Keep (v.alloc o) B v.heap.size o := ⟨Go.heap_alloc_new v o, fun hi => by have := C.lt h.mo _ hi; omega⟩
/-- A row of pairs that lies in no block of the map. -/
def KeepP (v : World) (B : List Nat) (pv : Value) (ps : List (Int × Int)) : Prop := PairRow v pv ps ∧ (ps.length = 0 ∨ ∀ g, g ∈ pv.ownBlock.toList → g ∉ B ∧ g < v.heap.size)
theorem PairRow.lt {v : World} {pv : Value} {ps : List (Int × Int)} (h : PairRow v pv ps) (h0 : ps.length ≠ 0) : ∀ g, g ∈ pv.ownBlock.toList → g < v.heap.size := by
  obtain ⟨a, cap, rfl, -, hc⟩ := h
  rcases hc with h1 | ⟨b, off, rfl, hb, -⟩
  · exact absurd h1 h0
  · intro g hg; simp [Value.ownBlock] at hg; subst hg; exact hb
theorem PairRow.zero {v w' : World} {pv : Value} {ps : List (Int × Int)} (h : PairRow v pv ps) (h0 : ps.length = 0) : PairRow w' pv ps := by
  obtain ⟨a, cap, h1, h2, -⟩ := h; exact ⟨a, cap, h1, h2, .inl h0⟩
theorem KeepP.of {v : World} {B : List Nat} {pv : Value} {ps : List (Int × Int)} (h : PairRow v pv ps) (hg : ∀ g, g ∈ pv.ownBlock.toList → g ∉ B) : KeepP v B pv ps := by
  by_cases h0 : ps.length = 0
  · exact ⟨h, .inl h0⟩
  · exact ⟨h, .inr fun g hi => ⟨hg g hi, h.lt h0 g hi⟩⟩
theorem KeepP.step {v w' : World} {B B' : List Nat} {pv : Value} {ps : List (Int × Int)} (h : KeepP v B pv ps) (g : Grows v B B') (f : Fr B v w') : KeepP w' B' pv ps := by
  obtain ⟨h1, h2⟩ := h
  rcases h2 with h0 | h2
  · exact ⟨h1.zero h0, .inl h0⟩
  · exact ⟨h1.kept f (fun i hi => (h2 i hi).1), .inr fun i hi => ⟨g.off (h2 i hi).1 (h2 i hi).2, Nat.lt_of_lt_of_le (h2 i hi).2 f.size⟩⟩
theorem KeepP.up {v w' : World} {B : List Nat} {pv : Value} {ps : List (Int × Int)} (h : KeepP v B pv ps) (f : Fr [] v w') : KeepP w' B pv ps := by
  obtain ⟨h1, h2⟩ := h
  refine ⟨h1.up f, h2.imp id fun h2 i hi => ⟨(h2 i hi).1, Nat.lt_of_lt_of_le (h2 i hi).2 f.size⟩⟩
set_option maxRecDepth 100000 in
set_option maxHeartbeats 8000000 in
theorem known_true (C : MapC Mo) (w : World) : Calls Try.prog 8 #[] w fun e w' => e = .returned (.bool true) ∧ Fr [] w w' := by
  go_enter Try.func8, Try.ntmps8
  go_wp2_with fail
  refine (mine_new C w _ (Fr.refl [] w)).mono ?_; rintro e w1 ⟨q, B1, rfl, M1, -, -⟩
  go_wp2_with fail
  refine (mine_do C 1 5 0 0 7 (by decide) (by decide) M1).mono ?_; rintro e w2 ⟨p2, B2, rfl, P2, g2, M2, gr2, F2⟩
  rw [show ans (none1) (none1) 1 5 0 0 = ⟨0, false, 0, -1, 0, []⟩ by kernel_rfl] at P2 ⊢
  simp only [ansv]
  obtain ⟨x2, y2, hx2, -, -⟩ := id P2
  subst hx2
  clear M1 gr2 F2 g2 P2
  have Ka := Keep.new C M2 (.cells #[.int .i64 0, .bool false, .int .i64 0, .int .i64 (-1), .int .i64 0, .slice x2 0 y2] 31)
  have f2 := (Fr.refl [] w2).alloc (.cells #[.int .i64 0, .bool false, .int .i64 0, .int .i64 (-1), .int .i64 0, .slice x2 0 y2] 31)
  replace M2 := M2.up C f2
  clear f2
  go_wp2_with fail
  generalize (w2.alloc (.cells #[.int .i64 0, .bool false, .int .i64 0, .int .i64 (-1), .int .i64 0, .slice x2 0 y2] 31)) = v2 at *
  generalize w2.heap.size = b2 at *
  refine (mine_do C 3 5 0 0 8 (by decide) (by decide) M2).mono ?_; rintro e w3 ⟨p3, B3, rfl, P3, g3, M3, gr3, F3⟩
  rw [show ans (nxV (none1) 1 5 0 0) (nxW (none1) 1 5 0 0 7) 3 5 0 0 = ⟨0, true, 0, 7, 0, []⟩ by kernel_rfl] at P3 ⊢
  simp only [ansv]
  obtain ⟨x3, y3, hx3, -, -⟩ := id P3
  subst hx3
  replace Ka := Ka.step gr3 F3
  clear M2 gr3 F3 g3 P3
  have Kb := Keep.new C M3 (.cells #[.int .i64 0, .bool true, .int .i64 0, .int .i64 (7), .int .i64 0, .slice x3 0 y3] 31)
  have f3 := (Fr.refl [] w3).alloc (.cells #[.int .i64 0, .bool true, .int .i64 0, .int .i64 (7), .int .i64 0, .slice x3 0 y3] 31)
  replace M3 := M3.up C f3
  replace Ka := Ka.up f3
  clear f3
  go_wp2_with fail
  generalize (w3.alloc (.cells #[.int .i64 0, .bool true, .int .i64 0, .int .i64 (7), .int .i64 0, .slice x3 0 y3] 31)) = v3 at *
  generalize w3.heap.size = b3 at *
  refine (mine_do C 1 9 3 0 9 (by decide) (by decide) M3).mono ?_; rintro e w4 ⟨p4, B4, rfl, P4, g4, M4, gr4, F4⟩
  rw [show ans (nxV (nxV (none1) 1 5 0 0) 3 5 0 0) (nxW (nxW (none1) 1 5 0 0 7) 3 5 0 0 8) 1 9 3 0 = ⟨0, false, 0, -1, 0, []⟩ by kernel_rfl] at P4 ⊢
  simp only [ansv]
  obtain ⟨x4, y4, hx4, -, -⟩ := id P4
  subst hx4
  replace Ka := Ka.step gr4 F4
  replace Kb := Kb.step gr4 F4
  clear M3 gr4 F4 g4 P4
  go_wp2_with fail
  refine (mine_do C 4 0 0 63 10 (by decide) (by decide) M4).mono ?_; rintro e w5 ⟨p5, B5, rfl, P5, g5, M5, gr5, F5⟩
  rw [show ans (nxV (nxV (nxV (none1) 1 5 0 0) 3 5 0 0) 1 9 3 0) (nxW (nxW (nxW (none1) 1 5 0 0 7) 3 5 0 0 8) 1 9 3 0 9) 4 0 0 63 = ⟨0, false, 0, -1, 0, [(5, 0), (9, 3)]⟩ by kernel_rfl] at P5 ⊢
  simp only [ansv]
  obtain ⟨x5, y5, hx5, -, -⟩ := id P5
  subst hx5
  replace Ka := Ka.step gr5 F5
  replace Kb := Kb.step gr5 F5
  have Q := KeepP.of P5 (fun g hg => (g5 g hg).2)
  clear M4 gr5 F5 g5 P5
  have Kc := Keep.new C M5 (.cells #[.int .i64 0, .bool false, .int .i64 0, .int .i64 (-1), .int .i64 0, .slice x5 2 y5] 31)
  have f5 := (Fr.refl [] w5).alloc (.cells #[.int .i64 0, .bool false, .int .i64 0, .int .i64 (-1), .int .i64 0, .slice x5 2 y5] 31)
  replace M5 := M5.up C f5
  replace Ka := Ka.up f5
  replace Kb := Kb.up f5
  replace Q := Q.up f5
  clear f5
  go_wp2_with fail
  generalize (w5.alloc (.cells #[.int .i64 0, .bool false, .int .i64 0, .int .i64 (-1), .int .i64 0, .slice x5 2 y5] 31)) = v5 at *
  generalize w5.heap.size = b5 at *
  refine (mine_do C 2 5 0 0 11 (by decide) (by decide) M5).mono ?_; rintro e w6 ⟨p6, B6, rfl, P6, g6, M6, gr6, F6⟩
  rw [show ans (nxV (nxV (nxV (nxV (none1) 1 5 0 0) 3 5 0 0) 1 9 3 0) 4 0 0 63) (nxW (nxW (nxW (nxW (none1) 1 5 0 0 7) 3 5 0 0 8) 1 9 3 0 9) 4 0 0 63 10) 2 5 0 0 = ⟨0, false, 0, -1, 0, []⟩ by kernel_rfl] at P6 ⊢
  simp only [ansv]
  obtain ⟨x6, y6, hx6, -, -⟩ := id P6
  subst hx6
  replace Ka := Ka.step gr6 F6
  replace Kb := Kb.step gr6 F6
  replace Kc := Kc.step gr6 F6
  replace Q := Q.step gr6 F6
  clear M5 gr6 F6 g6 P6
  go_wp2_with fail
  refine (mine_do C 3 5 0 0 12 (by decide) (by decide) M6).mono ?_; rintro e w7 ⟨p7, B7, rfl, P7, g7, M7, gr7, F7⟩
  rw [show ans (nxV (nxV (nxV (nxV (nxV (none1) 1 5 0 0) 3 5 0 0) 1 9 3 0) 4 0 0 63) 2 5 0 0) (nxW (nxW (nxW (nxW (nxW (none1) 1 5 0 0 7) 3 5 0 0 8) 1 9 3 0 9) 4 0 0 63 10) 2 5 0 0 11) 3 5 0 0 = ⟨0, false, 0, 11, 0, []⟩ by kernel_rfl] at P7 ⊢
  simp only [ansv]
  obtain ⟨x7, y7, hx7, -, -⟩ := id P7
  subst hx7
  replace Ka := Ka.step gr7 F7
  replace Kb := Kb.step gr7 F7
  replace Kc := Kc.step gr7 F7
  replace Q := Q.step gr7 F7
  clear M6 gr7 F7 g7 P7
  have Kd := Keep.new C M7 (.cells #[.int .i64 0, .bool false, .int .i64 0, .int .i64 (11), .int .i64 0, .slice x7 0 y7] 31)
  have f7 := (Fr.refl [] w7).alloc (.cells #[.int .i64 0, .bool false, .int .i64 0, .int .i64 (11), .int .i64 0, .slice x7 0 y7] 31)
  replace M7 := M7.up C f7
  replace Ka := Ka.up f7
  replace Kb := Kb.up f7
  replace Kc := Kc.up f7
  replace Q := Q.up f7
  clear f7
  go_wp2_with fail
  generalize (w7.alloc (.cells #[.int .i64 0, .bool false, .int .i64 0, .int .i64 (11), .int .i64 0, .slice x7 0 y7] 31)) = v7 at *
  generalize w7.heap.size = b7 at *
  refine (C.get q B7 _ _ 9 _ (by decide) M7.mo).mono ?_; rintro e w8 ⟨rfl, F8⟩
  rw [show max 0 ((nxV (nxV (nxV (nxV (nxV (nxV (none1) 1 5 0 0) 3 5 0 0) 1 9 3 0) 4 0 0 63) 2 5 0 0) 3 5 0 0) 9) = 3 by kernel_rfl, show decide (0 ≤ (nxV (nxV (nxV (nxV (nxV (nxV (none1) 1 5 0 0) 3 5 0 0) 1 9 3 0) 4 0 0 63) 2 5 0 0) 3 5 0 0) 9) = true by kernel_rfl]
  have M8 := M7.up C F8
  replace Ka := Ka.up F8
  replace Kb := Kb.up F8
  replace Kc := Kc.up F8
  replace Kd := Kd.up F8
  replace Q := Q.up F8
  clear M7 F8
  obtain ⟨⟨xq, yq, hq, -, hqc⟩, -⟩ := Q
  simp only [Value.slice.injEq] at hq
  obtain ⟨rfl, -, rfl⟩ := hq
  rcases hqc with hz | ⟨bq, oq, rfl, -, hcell⟩
  · cases hz
  obtain ⟨q0, q1⟩ := hcell 0 (by decide)
  have q0' : w8.cell? ⟨bq, oq, none⟩ = some (.int .i64 5) := by simpa using q0
  have q1' : w8.cell? ⟨bq, oq + 1, none⟩ = some (.int .i64 0) := by simpa using q1
  obtain ⟨a0, a1, a2, a3, a4, a5⟩ := cells6 Ka.1
  obtain ⟨c0, c1, c2, c3, c4, c5⟩ := cells6 Kb.1
  obtain ⟨d0, d1, d2, d3, d4, d5⟩ := cells6 Kc.1
  obtain ⟨e0, e1, e2, e3, e4, e5⟩ := cells6 Kd.1
  have hG := pairGuard
  have hpe := pair_eql 5 0
  clear hcell q0 q1 Ka Kb Kc Kd
  go_wp2_with fail
  refine (C.writer q B7 _ _ 1 _ (by decide) M8.mo).mono ?_; rintro e w9 ⟨rfl, F9⟩
  rw [show (nxW (nxW (nxW (nxW (nxW (nxW (none1) 1 5 0 0 7) 3 5 0 0 8) 1 9 3 0 9) 4 0 0 63 10) 2 5 0 0 11) 3 5 0 0 12) 1 = -1 by kernel_rfl]
  have M9 := M8.up C F9
  clear a0 a1 a2 a3 a4 a5 c0 c1 c2 c3 c4 c5 d0 d1 d2 d3 d4 d5 e0 e1 e2 e3 e4 e5 hG hpe q0' q1' F9 M8
  go_wp2_with fail
  refine (C.all q B7 _ _ _ M9.mo).mono ?_; rintro e w10 ⟨⟨pv, rfl, Pv, -⟩, F10⟩
  have M10 := M9.up C F10
  rw [show scan (nxV (nxV (nxV (nxV (nxV (nxV (none1) 1 5 0 0) 3 5 0 0) 1 9 3 0) 4 0 0 63) 2 5 0 0) 3 5 0 0) 0 63 = [(9, 3)] by kernel_rfl] at Pv
  obtain ⟨xv, yv, rfl, -, -⟩ := Pv
  clear F10 M9
  have hfc := field_code
  go_wp2_with fail
  refine (mine_do C 0 0 0 0 1 (by decide) (by decide) M10).mono ?_; rintro e w11 ⟨p11, B11, rfl, P11, -, M11, -, -⟩
  rw [show ans (nxV (nxV (nxV (nxV (nxV (nxV (none1) 1 5 0 0) 3 5 0 0) 1 9 3 0) 4 0 0 63) 2 5 0 0) 3 5 0 0) (nxW (nxW (nxW (nxW (nxW (nxW (none1) 1 5 0 0 7) 3 5 0 0 8) 1 9 3 0 9) 4 0 0 63 10) 2 5 0 0 11) 3 5 0 0 12) 0 0 0 0 = ⟨10, false, 0, 0, 0, []⟩ by kernel_rfl]
  simp only [ansv]
  clear P11
  go_wp2
  go_ret
  exact ⟨rfl, M11.g⟩
end Go.Proofs.Ytjhgjpkiinkaeaa.Mp
