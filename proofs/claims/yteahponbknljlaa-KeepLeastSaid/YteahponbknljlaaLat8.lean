/- Package keep's Latest; the reference's. -/
import Derived.Test.YteahponbknljlaaCmp2
namespace Go.Proofs.Yteahponbknljlaa.Kp
open Go.RowKit Go.Proofs.Yteahponbknljlaa.Ar Go.Proofs.Yteahponbknljlaa.Mx
set_option linter.unusedVariables false
set_option linter.unusedSimpArgs false
/-- What Latest answers. -/
def latV (o : Option It) : Value := .tuple #[.agg #[.int .i64 (o.getD ⟨0, 0, 0⟩).k, .int .i64 (o.getD ⟨0, 0, 0⟩).v, .int .i64 (o.getD ⟨0, 0, 0⟩).d], .bool o.isSome]
def foldL (k v : Int) (l : List It) : Option It := l.foldl (lat1 k v) none
theorem foldL_step {k v : Int} {l : List It} {i : Nat} {x : It} (hx : l[i]? = some x) : foldL k v (l.take (i + 1)) = lat1 k v (foldL k v (l.take i)) x := by
  unfold foldL; rw [List.take_add_one, hx, List.foldl_append]; rfl
def LatAt (w : World) (l : List It) (key version : Int) (p q : Nat) (u9 u15 : Value) (wr : World) : Prop :=
  ∃ (i : Nat) (c : It), i ≤ l.length ∧ u15 = .int .i64 (i : Nat) ∧ u9 = .bool (foldL key version (l.take i)).isSome ∧ c = (foldL key version (l.take i)).getD ⟨0, 0, 0⟩ ∧
    wr.heap[p]? = some (.cells #[.int .i64 0, .int .i64 0, .int .i64 0] 26 (0, 0)) ∧ wr.heap[q]? = some (.cells #[.int .i64 c.k, .int .i64 c.v, .int .i64 c.d] 26 (0, 0)) ∧ Fr [] w wr
theorem lat1_old {k v : Int} {o : Option It} {x : It} (h : ¬ (x.k = k ∧ x.v ≤ v)) : lat1 k v o x = o := by unfold lat1; rw [if_neg (fun hh => h ⟨hh.1, hh.2.1⟩)]
theorem lat1_new {v : Int} {o : Option It} {x : It} (h : x.v ≤ v) (ho : o.all (fun y => decide (y.v ≤ x.v)) = true) : lat1 x.k v o x = some x := by unfold lat1; rw [if_pos ⟨rfl, h, ho⟩]
theorem lat1_less {k v : Int} {y x : It} (h : ¬ y.v ≤ x.v) : lat1 k v (some y) x = some y := by unfold lat1; rw [if_neg (fun hh => h (by simpa using hh.2.2))]
theorem set3 {w : World} {q : Nat} {T : TypeId} {x y z : Value} (h : Ob w q T #[x, y, z]) (a b c : Value) : Ob (((w.setCell ⟨q, 0, none⟩ a).setCell ⟨q, 1, none⟩ b).setCell ⟨q, 2, none⟩ c) q T #[a, b, c] := ((h.set (i := 0) a).set (i := 1) b).set (i := 2) c
theorem fr3 {w w' : World} {q : Nat} (f : Fr [] w w') (a b c : Value) (hq : w.heap.size ≤ q) : Fr [] w (((w'.setCell ⟨q, 0, none⟩ a).setCell ⟨q, 1, none⟩ b).setCell ⟨q, 2, none⟩ c) :=
  f.own (((Fr.setCell (S := [q]) a (by simp)).setCell' b (by simp)).setCell' c (by simp)) (by simpa using hq)
set_option maxRecDepth 100000 in
set_option maxHeartbeats 3200000 in
theorem latest8_any (l : List It) (v : Value) (key version : Int) (w : World) (hl : l.length ≤ 1000) (h : Sq fT w v l) :
    Calls Try.prog 10 #[v, .int .i64 key, .int .i64 version] w fun e w' => e = .returned (latV (latT l key version)) ∧ Fr [] w w' := by
  obtain ⟨av, cv, rfl, hcv, hmv, -⟩ := id h
  go_enter Try.func10, Try.ntmps10
  go_wp2_with fail
  go_loopw [9, 15] (LatAt w l key version w.heap.size (w.heap.size + 1)) (fun _ x _ => l.length - (match x with | .int _ z => z.toNat | _ => 0))
  case atStart =>
    exact ⟨0, ⟨0, 0, 0⟩, by omega, rfl, rfl, rfl, (Below.heap_alloc _ _ _ (by simp)).trans (Go.heap_alloc_new w _), Ob.newAt (by simp) _ _, ((Fr.refl [] w).alloc _).alloc _⟩
  case round =>
    obtain ⟨i, c, hi, rfl, rfl, hc, hp, hq, F⟩ := hrel
    generalize hfo : foldL key version (l.take i) = o at *
    have HO := Lib.hid (And.intro hfo hc)
    clear hfo hc
    have hpq : w.heap.size + 1 < wr.heap.size := (Array.getElem?_eq_some_iff.1 hq).1
    by_cases hlt : i < l.length
    · obtain ⟨x, hx⟩ : ∃ x, l[i]? = some x := ⟨l[i], List.getElem?_eq_getElem hlt⟩
      have hltz : (i : Int) < (l.length : Int) := by omega
      have HS := Lib.hid (foldL_step (k := key) (v := version) hx)
      obtain ⟨gs, os, rfl, x0, x1, x2⟩ := it_cells (h.up F) hx
      have F2 := F.alloc (.cells #[.int .i64 x.k, .int .i64 x.v, .int .i64 x.d] 26)
      have hp2 := Ob.alloc hp (.cells #[.int .i64 x.k, .int .i64 x.v, .int .i64 x.d] 26)
      have hq2 := Ob.alloc hq (.cells #[.int .i64 x.k, .int .i64 x.v, .int .i64 x.d] 26)
      obtain ⟨q0, q1, q2⟩ := cells3 hq2
      have f0 := Ob.frozen hq2 0
      have f1 := Ob.frozen hq2 1
      have f2 := Ob.frozen hq2 2
      obtain ⟨q0w, q1w, q2w⟩ := cells3 hq
      have f0w := Ob.frozen hq 0
      have f1w := Ob.frozen hq 1
      have f2w := Ob.frozen hq 2
      have HQ := Lib.hid (And.intro hp2 (And.intro hq2 F2))
      have HW := Lib.hid (And.intro hp (And.intro hq F))
      clear hx hp hq F h hp2 hq2 F2
      by_cases hk : x.k = key
      · obtain rfl := hk
        by_cases hv : version < x.v
        · skip
          go_wp2_with fail
          go_roundw
          case rel => exact ⟨i + 1, c, by omega, by simp, by rw [HS.out, HO.out.1, lat1_old (fun hh => by omega)], by rw [HS.out, HO.out.1, lat1_old (fun hh => by omega)]; exact HO.out.2, HQ.out.1, HQ.out.2.1, HQ.out.2.2⟩
          case measure => simp; omega
        · cases o with
          | none =>
            have hb : (!(none : Option It).isSome) = true := rfl
            go_wp2_with fail
            go_roundw
            case rel => exact ⟨i + 1, x, by omega, by simp, by rw [HS.out, HO.out.1, lat1_new (by omega) (by simp)]; rfl, by rw [HS.out, HO.out.1, lat1_new (by omega) (by simp)]; rfl, Ob.alloc (Ob.other (Ob.other (Ob.other HW.out.1 (by omega) _) (by omega) _) (by omega) _) _, Ob.alloc (set3 HW.out.2.1 _ _ _) _, (fr3 HW.out.2.2 _ _ _ (by omega)).alloc _⟩
            case measure => simp; omega
          | some y =>
            have hcy : c = y := HO.out.2
            subst hcy
            by_cases hvv : c.v ≤ x.v
            · skip
              go_wp2_with fail
              go_roundw
              case rel => exact ⟨i + 1, x, by omega, by simp, by rw [HS.out, HO.out.1, lat1_new (by omega) (by simpa using hvv)]; rfl, by rw [HS.out, HO.out.1, lat1_new (by omega) (by simpa using hvv)]; rfl, Ob.alloc (Ob.other (Ob.other (Ob.other HW.out.1 (by omega) _) (by omega) _) (by omega) _) _, Ob.alloc (set3 HW.out.2.1 _ _ _) _, (fr3 HW.out.2.2 _ _ _ (by omega)).alloc _⟩
              case measure => simp; omega
            · skip
              go_wp2_with fail
              go_roundw
              case rel => exact ⟨i + 1, c, by omega, by simp, by rw [HS.out, HO.out.1, lat1_less (by omega)], by rw [HS.out, HO.out.1, lat1_less (by omega)]; exact HO.out.2, HQ.out.1, HQ.out.2.1, HQ.out.2.2⟩
              case measure => simp; omega
      · have hkn : (x.k != key) = true := by simpa using hk
        go_wp2_with fail
        go_roundw
        case rel => exact ⟨i + 1, c, by omega, by simp, by rw [HS.out, HO.out.1, lat1_old (fun hh => hk hh.1)], by rw [HS.out, HO.out.1, lat1_old (fun hh => hk hh.1)]; exact HO.out.2, HQ.out.1, HQ.out.2.1, HQ.out.2.2⟩
        case measure => simp; omega
    · have hltz : ¬ (i : Int) < (l.length : Int) := by omega
      have hie : l.length ≤ i := by omega
      obtain ⟨q0, q1, q2⟩ := cells3 hq
      obtain ⟨p0, p1, p2⟩ := cells3 hp
      have f0 := Ob.frozen hp 0
      have f1 := Ob.frozen hp 1
      have f2 := Ob.frozen hp 2
      have HF := Lib.hid F
      have HP := Lib.hid hp
      clear F h hp hq
      go_wp2_with fail
      obtain ⟨e0, e1, e2⟩ := cells3 (set3 HP.out (.int .i64 c.k) (.int .i64 c.v) (.int .i64 c.d))
      have HR := Lib.hid (fr3 HF.out (.int .i64 c.k) (.int .i64 c.v) (.int .i64 c.d) (Nat.le_refl w.heap.size))
      generalize ((wr.setCell ⟨w.heap.size, 0, none⟩ (.int .i64 c.k)).setCell ⟨w.heap.size, 1, none⟩ (.int .i64 c.v)).setCell ⟨w.heap.size, 2, none⟩ (.int .i64 c.d) = w9 at *
      refine bodyPost_ret (v := .tuple #[.agg #[.int .i64 c.k, .int .i64 c.v, .int .i64 c.d], .bool o.isSome]) (by simp [results, Try.results10, go_sem, e0, e1, e2]) rfl ⟨?_, HR.out⟩
      have e9 := HO.out.1
      rw [List.take_of_length_le hie] at e9
      rw [show latT l key version = o from e9, HO.out.2]; rfl
end Go.Proofs.Yteahponbknljlaa.Kp
