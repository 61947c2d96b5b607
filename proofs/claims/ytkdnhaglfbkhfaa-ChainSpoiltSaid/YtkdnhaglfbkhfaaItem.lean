/- Items, as rows; the reference's order of them (Sort). -/
import Derived.Test.YtkdnhaglfbkhfaaSeq
import Derived.Test.YtkdnhaglfbkhfaaEnv
namespace Go.Proofs.Ytkdnhaglfbkhfaa.Mx
open Go.RowKit Go.Proofs.Ytkdnhaglfbkhfaa.Ar
set_option linter.unusedVariables false
set_option linter.unusedSimpArgs false
structure It where
  k : Int
  v : Int
  d : Int
deriving DecidableEq
def fT (x : It) : List Value := [.int .i64 x.k, .int .i64 x.v, .int .i64 x.d]
theorem fT_lays : Lays fT 3 := ⟨fun _ => rfl, fun x u hu => by simp [fT] at hu; rcases hu with rfl | rfl | rfl <;> rfl, by decide⟩
theorem itI : (Try.prog.info? 73).map (fun i => (i.zero, i.size, i.bytes)) = some (some (.agg #[.int .i64 0, .int .i64 0, .int .i64 0]), 3, 24) := by kernel_rfl
/-- Does x stand behind y? -/
def gtT (y x : It) : Bool := decide (y.k > x.k) || ((y.k == x.k) && decide (y.v > x.v))
/-- Where x is put in, looked for from k down. -/
def posT (out : List It) (x : It) : Nat → Nat
  | 0 => 0
  | k + 1 => if (out[k]?.any fun y => gtT y x) = true then posT out x k else k + 1
def insT (out : List It) (x : It) : List It := out.take (posT out x out.length) ++ [x] ++ out.drop (posT out x out.length)
def sortT (l : List It) : List It := l.foldl insT []
theorem posT_succ {out : List It} {x y : It} {j : Nat} (hy : out[j]? = some y) : posT out x (j + 1) = if gtT y x = true then posT out x j else j + 1 := by simp only [posT, hy, Option.any_some]
theorem posT_le (out : List It) (x : It) (k : Nat) : posT out x k ≤ k := by
  induction k with
  | zero => exact Nat.le_refl _
  | succ k ih => unfold posT; split <;> omega
theorem insT_length (out : List It) (x : It) : (insT out x).length = out.length + 1 := by
  unfold insT
  have := posT_le out x out.length
  simp; omega
theorem sortT_length (l : List It) : (sortT l).length = l.length := by
  unfold sortT
  suffices h : ∀ (l out : List It), (l.foldl insT out).length = out.length + l.length by have := h l []; simpa using this
  intro l
  induction l with
  | nil => intro out; rfl
  | cons x l ih => intro out; rw [List.foldl_cons, ih, insT_length, List.length_cons]; omega
theorem it_cells {w : World} {a : Option Addr} {n cap i : Nat} {xs : List It} {x : It} (h : Sq fT w (.slice a n cap) xs) (hi : xs[i]? = some x) :
    ∃ g off, a = some ⟨g, off, none⟩ ∧ w.cell? ⟨g, off + i * 3, none⟩ = some (.int .i64 x.k) ∧ w.cell? ⟨g, off + i * 3 + 1, none⟩ = some (.int .i64 x.v) ∧ w.cell? ⟨g, off + i * 3 + 2, none⟩ = some (.int .i64 x.d) := by
  obtain ⟨-, g, off, rfl, hc⟩ := Sq.cell fT_lays h hi
  exact ⟨g, off, rfl, hc 0 _ rfl, hc 1 _ rfl, hc 2 _ rfl⟩
/-- Where the sort stands: i of them are in. -/
def SrtAt (w : World) (l : List It) (u x : Value) (wr : World) : Prop := ∃ i, i ≤ l.length ∧ x = .int .i64 (i : Nat) ∧ wr.ownsRow w.heap.size 73 3 u (sortT (l.take i)).length ((sortT (l.take i)).flatMap fT) ∧ Fr [] w wr
/-- Where the search for an item's place stands. -/
def PosAt (wr : World) (out : List It) (x : It) (u : Value) (w' : World) : Prop := ∃ k, k ≤ out.length ∧ u = .int .i64 (k : Nat) ∧ Fr [] wr w' ∧ posT out x out.length = posT out x k
end Go.Proofs.Ytkdnhaglfbkhfaa.Mx
