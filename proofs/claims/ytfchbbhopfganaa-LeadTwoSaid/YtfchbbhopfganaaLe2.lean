/- The developers' lead: made, what it tells; a lead of its own. -/
import Derived.Test.YtfchbbhopfganaaLe1s
import Derived.Test.YtfchbbhopfganaaErr
import Derived.Test.YtfchbbhopfganaaFirst
namespace Go.Proofs.Ytfchbbhopfganaa.Le
open Go.RowKit Go.Proofs.Ytfchbbhopfganaa.Ar Go.Proofs.Ytfchbbhopfganaa.Mx
set_option linter.unusedVariables false
set_option linter.unusedSimpArgs false
def Lx.new (ch : Int) (dr : Bool) : Lx := ⟨ch, dr, false, 0, 0, 0, 0, 0, 0, 0, 0, 0, 0, 0, 0⟩
theorem new_any (c : Cf) (ch : Int) (dr : Bool) (w : World) : Calls Try.prog 10 #[c.val, .int .i64 ch, .bool dr] w fun e w' => ∃ b, e = .returned (.pointer (some ⟨b, 0, none⟩)) ∧ w.heap.size ≤ b ∧ LxAt w' b 58 #[] #[] (Lx.new ch dr) ∧ Fr [] w w' := by
  unfold Cf.val
  obtain ⟨c0, c1, c2, c3⟩ := Pl.cells4 (Go.heap_alloc_new w (.cells #[.int .i64 c.t, .int .i64 c.c, .int .i64 c.wd, .int .i64 c.v] 25))
  have F0 := (Fr.refl [] w).alloc (.cells #[.int .i64 c.t, .int .i64 c.c, .int .i64 c.wd, .int .i64 c.v] 25)
  go_enter Try.func10, Try.ntmps10
  go_wp2_with fail
  go_ret
  exact ⟨_, rfl, by omega, Ob.newAt (sizeA _ _) _ _, F0.alloc _⟩
def Lx.rl (y : Lx) : Int := if y.ln = 11 then y.f1 else 0
def Lx.rm (y : Lx) : Int := if y.ln = 11 then (if mkL y.f9 = true then y.n else 0) else 0
def Lx.ra (y : Lx) : Int := if y.ln = 11 then (if mkL y.f9 = true then atL y.f9 else y.n) else 0
section
variable {w : World} {b o p q : Nat} {T : TypeId} {pre post : Array Value} {y : Lx} {s : St}
theorem drw_any (h : LxAt w b T pre post y) (ho : pre.size = o) : Calls Try.prog 15 #[.pointer (some ⟨b, o, none⟩)] w fun e w' => e = .returned (.bool y.dw) ∧ w = w' := by
  obtain ⟨-, -, c2, -⟩ := lx_cells h ho
  clear h
  go_enter Try.func15, Try.ntmps15
  go_wp2
  go_ret
  exact ⟨rfl, rfl⟩
def PostC (w : World) (a b c : Int) (e : Ending) (w' : World) : Prop := e = .returned (.tuple #[.int .i64 a, .int .i64 b, .int .i64 c]) ∧ w = w'
theorem chk_any (h : LxAt w b T pre post y) (ho : pre.size = o) : Calls Try.prog 12 #[.pointer (some ⟨b, o, none⟩)] w (PostC w y.rl y.rm y.ra) := by
  have HL := Lib.hid (ldr_any h ho)
  have HN := Lib.hid (nxt_any h ho)
  obtain ⟨-, -, -, c3, -, -, -, -, -, -, -, -, -, c13, -⟩ := lx_cells h ho
  clear h
  unfold Lx.rl Lx.rm Lx.ra
  generalize y.n = n at *
  generalize y.f1 = l at *
  generalize y.f9 = v at *
  generalize y.ln = ln at *
  by_cases e : ln = 11
  · subst e
    have q0 : ((11 : Int) != 11) = false := by decide
    rw [if_pos rfl, if_pos rfl, if_pos rfl]
    cases g : mkL v
    · rw [if_neg (by decide), if_neg (by decide)]
      go_enter Try.func12, Try.ntmps12
      go_wp2_with fail
      refine (marked_any _ _).mono ?_; rintro e _ ⟨rfl, rfl⟩
      rw [g]
      go_wp2_with fail
      refine HL.out.mono ?_; rintro e _ ⟨rfl, rfl⟩
      go_wp2_with fail
      refine HN.out.mono ?_; rintro e _ ⟨rfl, rfl⟩
      go_wp2
      exact bodyPost_ret (v := .tuple #[.int .i64 l, .int .i64 0, .int .i64 n]) (by simp [results, Try.results12, go_sem]) rfl ⟨rfl, rfl⟩
    · rw [if_pos rfl, if_pos rfl]
      go_enter Try.func12, Try.ntmps12
      go_wp2_with fail
      refine (marked_any _ _).mono ?_; rintro e _ ⟨rfl, rfl⟩
      rw [g]
      go_wp2_with fail
      refine HL.out.mono ?_; rintro e _ ⟨rfl, rfl⟩
      go_wp2_with fail
      refine HN.out.mono ?_; rintro e _ ⟨rfl, rfl⟩
      go_wp2_with fail
      refine (at_any _ _).mono ?_; rintro e _ ⟨rfl, rfl⟩
      go_wp2
      exact bodyPost_ret (v := .tuple #[.int .i64 l, .int .i64 n, .int .i64 (atL v)]) (by simp [results, Try.results12, go_sem]) rfl ⟨rfl, rfl⟩
  · have q0 : (ln != 11) = true := by simpa using e
    rw [if_neg e, if_neg e, if_neg e]
    clear e
    go_enter Try.func12, Try.ntmps12
    go_wp2
    exact bodyPost_ret (v := .tuple #[.int .i64 0, .int .i64 0, .int .i64 0]) (by simp [results, Try.results12, go_sem]) rfl ⟨rfl, rfl⟩
end
/-- A lead of its own. -/
def LeIs (w : World) (b : Nat) (y : Lx) : Prop := LxAt w b 58 #[] #[] y
theorem LeIs.up {w w' : World} {b : Nat} {y : Lx} (h : LeIs w b y) (f : Fr [] w w') : LeIs w' b y := Pb.up h f
theorem LeIs.kept {S : List Nat} {w w' : World} {b : Nat} {y : Lx} (h : LeIs w b y) (f : Fr S w w') (hb : b ∉ S) : LeIs w' b y := Pb.kept h f hb
theorem LeIs.lt {w : World} {b : Nat} {y : Lx} (h : LeIs w b y) : b < w.heap.size := Pb.lt h
def runL : Nat → Lx → St → Lx × St
  | 0, y, s => (y, s)
  | n + 1, y, s => let r := runL n y s; r.1.go r.2
theorem mate_ln (y : Lx) (m : Int) : 0 ≤ y.mateL m ∧ y.mateL m ≤ 11 := by unfold Lx.mateL; split <;> omega
theorem beh_ln (y : Lx) : 0 ≤ y.behL ∧ y.behL ≤ 11 := by
  have h1 := mate_ln y y.f4
  have h2 := mate_ln y y.f6
  unfold Lx.behL
  (repeat' split) <;> omega
theorem go_ln {y : Lx} {s : St} (h : 0 ≤ y.ln ∧ y.ln ≤ 11) : 0 ≤ (y.go s).1.ln ∧ (y.go s).1.ln ≤ 11 := by
  unfold Lx.go
  by_cases e : y.ln = 11
  · rw [if_pos e]; exact h
  · rw [if_neg e]; exact beh_ln _
theorem run_ln {y : Lx} {s : St} (h : 0 ≤ y.ln ∧ y.ln ≤ 11) : ∀ n, 0 ≤ (runL n y s).1.ln ∧ (runL n y s).1.ln ≤ 11
  | 0 => h
  | n + 1 => go_ln (run_ln h n)
def PostK (w : World) (b p q : Nat) (y : Lx) (s : St) (e : Ending) (w' : World) : Prop := e = .returned (.bool (decide (y.ln = 11))) ∧ LeIs w' b y ∧ Ar w' p q s ∧ Fr [b, p, q] w w'
theorem lstep_any {w : World} {b p q : Nat} {y : Lx} {s : St} (hl : 0 ≤ y.ln ∧ y.ln ≤ 11) (h : LeIs w b y) (hA : Ar w p q s) (hne : b ≠ p ∧ b ≠ q) : Calls Try.prog 11 #[.pointer (some ⟨b, 0, none⟩), .pointer (some ⟨p, 0, none⟩)] w (PostK w b p q (y.go s).1 (y.go s).2) :=
  (step_any (o := 0) hl h rfl hA hne).mono fun e w' h => h
theorem lchk_any {w : World} {b : Nat} {y : Lx} (h : LeIs w b y) : Calls Try.prog 12 #[.pointer (some ⟨b, 0, none⟩)] w (PostC w y.rl y.rm y.ra) := chk_any (o := 0) h rfl
theorem ldrw_any {w : World} {b : Nat} {y : Lx} (h : LeIs w b y) : Calls Try.prog 15 #[.pointer (some ⟨b, 0, none⟩)] w fun e w' => e = .returned (.bool y.dw) ∧ w = w' := drw_any (o := 0) h rfl
end Go.Proofs.Ytfchbbhopfganaa.Le
