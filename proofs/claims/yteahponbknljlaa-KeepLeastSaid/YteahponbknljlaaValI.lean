/- slices.Values(l) at ints. -/
import Derived.Test.YteahponbknljlaaAppI
namespace Go.Proofs.Yteahponbknljlaa.Kp.ApI
open Go.RowKit Go.Shelf Go.Lib Go.Sort Go.Maps Go.Proofs.Yteahponbknljlaa.Ar Go.Proofs.Yteahponbknljlaa.Mx Go.Proofs.Yteahponbknljlaa.Kp
set_option linter.unusedVariables false
set_option linter.unusedSimpArgs false
theorem fr_of {w w' : World} (h : Below w.heap.size w w') : Fr [] w w' := ⟨h.os, h.tape, h.output, h.size, fun k hk _ => h.block k hk⟩
theorem values_any (av : Option Addr) (nv cv : Nat) (w : World) : Calls Try.prog 24 #[.slice av nv cv] w fun e w' => e = .returned (.func (.func 36) #[] #[.pointer (some ⟨w.heap.size, 0, none⟩)]) ∧ w' = w.alloc (.cells #[.slice av nv cv] 23) := by
  go_enter Try.func24, Try.ntmps24
  go_wp2_with fail
  go_ret
  exact ⟨rfl, rfl⟩
set_option maxRecDepth 100000 in
set_option maxHeartbeats 1600000 in
theorem feeds (n : Nat) (hn : 1 ≤ n) (Bm : Nat) (sv : Value) (xs : List Int) (w : World) (hm : w.cell? ⟨Bm, 0, none⟩ = some sv) (h : Sq fI w sv xs) (hlen : xs.length ≤ 1000) :
    Feeds n Try.prog 36 #[.pointer (some ⟨Bm, 0, none⟩)] enc (fun ys => ys = xs) xs.length w := by
  intro l J W hW hJ hB hY h0
  have hm0 := (fr_of hW).cell hm (by simp)
  obtain ⟨av, cv, rfl, hcv, hmv, -⟩ := id h
  refine callsIn_of_wp Try.func36 rfl trivial ?_ rfl
  simp only [Try.ntmps36, List.size_toArray, List.length_cons, List.length_nil, Nat.reduceAdd, Nat.reduceSub, Array.replicate_succ, Array.replicate_zero, List.push_toArray, List.append_toArray, List.nil_append, List.cons_append]
  gi_wp2
  gi_loopw [7] (fun x wr => ∃ i : Nat, i ≤ xs.length ∧ x = .int .i64 (i : Nat) ∧ J (xs.take i) wr) (fun x _ => xs.length - (match x with | .int _ z => z.toNat | _ => 0))
  case atStart => exact ⟨0, by omega, rfl, by simpa using h0⟩
  case round =>
    obtain ⟨i, hi, rfl, hJi⟩ := hrel
    by_cases hlt : i < xs.length
    · obtain ⟨x, hx⟩ : ∃ x, xs[i]? = some x := ⟨xs[i], List.getElem?_eq_getElem hlt⟩
      have hS := h.up (fr_of (hB _ _ hJi))
      obtain ⟨gs, os, rfl, x0⟩ := int_cell hS hx
      have hJ2 : J (xs.take i) wr := hJi
      obtain ⟨fn, tmps, assign, body, hy, hR⟩ := hY (xs.take i) x _ hJ2 (by rw [List.length_take]; omega)
      have hltz : (i : Int) < (xs.length : Int) := by omega
      have HT := Lib.hid (show xs.take (i + 1) = xs.take i ++ [x] by rw [List.take_add_one, hx]; rfl)
      have HI := Lib.hid hJi
      unfold enc at hy
      clear hJi hJ2 hS h
      gi_wp2
      refine hR.mono ?_
      rintro e W3 ⟨rfl, hJ3, hk3⟩
      gi_wp2
      go_roundw
      case rel => exact ⟨i + 1, by omega, by simp, by rw [HT.out]; exact hJ3⟩
      case measure => simp; omega
    · have hltz : ¬ (i : Int) < (xs.length : Int) := by omega
      have HI := Lib.hid hJi
      have hie : xs.length ≤ i := by omega
      clear hJi
      gi_wp2
      go_end0
      have := HI.out
      rw [List.take_of_length_le hie] at this
      exact ⟨⟨_, rfl⟩, this⟩
end Go.Proofs.Yteahponbknljlaa.Kp.ApI
