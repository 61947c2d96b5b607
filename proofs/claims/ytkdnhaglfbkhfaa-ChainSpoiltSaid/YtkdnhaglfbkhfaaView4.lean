/- Package view: Lay. -/
import Derived.Test.YtkdnhaglfbkhfaaView3
namespace Go.Proofs.Ytkdnhaglfbkhfaa.Vw
open Go.RowKit Go.Proofs.Ytkdnhaglfbkhfaa.Ar Go.Proofs.Ytkdnhaglfbkhfaa.Mx
set_option linter.unusedVariables false
set_option linter.unusedSimpArgs false
def Hd.word (h : Hd) : Nat → Int
  | 0 => h.mn
  | 1 => h.ct
  | 2 => h.nx
  | 3 => h.ld
  | 4 => h.mt
  | 5 => h.rp
  | _ => h.st
def layHN (s : St) (h : Hd) : Nat → St
  | 0 => s
  | i + 1 => (layHN s h i).poke (h.at_ + i) (h.word i)
def layCsN (s : St) (a : Int) (cs : List Ce) : Nat → St
  | 0 => s
  | i + 1 => layC (layCsN s a cs i) (a + 7 + 3 * i) (cs.getD i ⟨0, 0, 0⟩)
def layS (s : St) (h : Hd) (cs : List Ce) : St := layCsN (layHN s h 7) h.at_ cs cs.length
def LhAt (w : World) (s : St) (h : Hd) (p q : Nat) (u : Value) (wr : World) : Prop := ∃ i, i ≤ 7 ∧ u = .int .i64 (i : Nat) ∧ Ar wr p q (layHN s h i) ∧ Fr [q] w wr
def LkAt (w : World) (s : St) (a : Int) (cs : List Ce) (p q : Nat) (u : Value) (wr : World) : Prop := ∃ i, i ≤ cs.length ∧ u = .int .i64 (i : Nat) ∧ Ar wr p q (layCsN s a cs i) ∧ Fr [q] w wr
theorem hdBd {n : Nat} {c a : Int} (h : thereB n c a = true) : 0 ≤ a ∧ a ≤ n - (7 + 3 * c) := by unfold thereB at h; simpa using h
theorem two_boxes (w : World) (t n wd v : Int) (h : Hd) (lv : Value) : Fr [] w ((w.alloc (.cells #[.int .i64 t, .int .i64 n, .int .i64 wd, .int .i64 v] 24)).alloc (.cells (chC h lv) 63)) ∧
    Ob ((w.alloc (.cells #[.int .i64 t, .int .i64 n, .int .i64 wd, .int .i64 v] 24)).alloc (.cells (chC h lv) 63)) w.heap.size 24 #[.int .i64 t, .int .i64 n, .int .i64 wd, .int .i64 v] ∧
    Ob ((w.alloc (.cells #[.int .i64 t, .int .i64 n, .int .i64 wd, .int .i64 v] 24)).alloc (.cells (chC h lv) 63)) (w.heap.size + 1) 63 (chC h lv) :=
  ⟨((Fr.refl [] w).alloc _).alloc _, (Ob.new w _ _).alloc _, Ob.newAt (sizeA _ _) _ _⟩
end Go.Proofs.Ytkdnhaglfbkhfaa.Vw
