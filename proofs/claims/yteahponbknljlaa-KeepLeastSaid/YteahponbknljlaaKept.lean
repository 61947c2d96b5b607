/- Rows of ints; what is kept of items. -/
import Derived.Test.YteahponbknljlaaItem
namespace Go.Proofs.Yteahponbknljlaa.Mx
open Go.RowKit Go.Proofs.Yteahponbknljlaa.Ar
set_option linter.unusedVariables false
set_option linter.unusedSimpArgs false
def fI (x : Int) : List Value := [.int .i64 x]
theorem fI_lays : Lays fI 1 := ⟨fun _ => rfl, fun x u hu => by rw [List.mem_singleton.1 hu]; rfl, by decide⟩
theorem intI : (Try.prog.info? 3).map (fun i => (i.zero, i.size, i.bytes)) = some (some (.int .i64 0), 1, 8) := by kernel_rfl
theorem int_cell {w : World} {a : Option Addr} {n cap i : Nat} {xs : List Int} {x : Int} (h : Sq fI w (.slice a n cap) xs) (hi : xs[i]? = some x) :
    ∃ g off, a = some ⟨g, off, none⟩ ∧ w.cell? ⟨g, off + i, none⟩ = some (.int .i64 x) := by
  obtain ⟨-, g, off, rfl, hc⟩ := Sq.cell fI_lays h hi
  exact ⟨g, off, rfl, by simpa using hc 0 _ rfl⟩
/-- What is kept of items in order. -/
def keepsB (x : It) (nx : Option It) (vs : List Int) : Bool :=
  nx.all (fun y => y.k != x.k) || vs.any fun v => decide (x.v ≤ v) && (nx.all (fun y => y.k != x.k) || nx.any fun y => decide (v < y.v))
def keepS (vs : List Int) : List It → List It
  | [] => []
  | x :: r => if keepsB x r.head? vs = true then x :: keepS vs r else keepS vs r
def keepT (l : List It) (vs : List Int) : List It := keepS vs (sortT l)
end Go.Proofs.Yteahponbknljlaa.Mx
