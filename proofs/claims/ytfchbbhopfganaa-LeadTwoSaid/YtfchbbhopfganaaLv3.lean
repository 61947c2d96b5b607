/- The developers' lead over words: how many steps; what it tells. -/
import Derived.Test.YtfchbbhopfganaaLv2
namespace Go.Proofs.Ytfchbbhopfganaa.Le
open Go.RowKit Go.Proofs.Ytfchbbhopfganaa.Ar Go.Proofs.Ytfchbbhopfganaa.Mx
set_option linter.unusedVariables false
set_option linter.unusedSimpArgs false
/-- So many steps there are at most. -/
def remL (y : Lx) (s : St) : Nat :=
  if y.ln = 11 then 0 else if y.ln = 10 then 2 else if y.ln = 9 then (if Fw s y.n 2 % 2 = 1 then 1 else 3) else if y.ln = 8 then 4 else if y.ln = 7 then 5 else if y.ln = 6 then 6 else if y.ln = 5 then 7
  else if y.ln = 4 then 8 else if y.ln = 3 then 10 else if y.ln = 2 then (if Fw s y.f1 2 % 2 = 1 then 9 else 11) else if y.ln = 1 then 12 else 13
theorem rem_le (y : Lx) (s : St) : remL y s ≤ 13 := by unfold remL; (repeat' split) <;> omega
theorem r0 {z : Lx} {t : St} (e : z.ln = 0) : remL z t = 13 := by unfold remL; simp [e]
theorem r1 {z : Lx} {t : St} (e : z.ln = 1) : remL z t = 12 := by unfold remL; simp [e]
theorem r2 {z : Lx} {t : St} (e : z.ln = 2) : remL z t = (if Fw t z.f1 2 % 2 = 1 then 9 else 11) := by unfold remL; simp [e]
theorem r3 {z : Lx} {t : St} (e : z.ln = 3) : remL z t = 10 := by unfold remL; simp [e]
theorem r4 {z : Lx} {t : St} (e : z.ln = 4) : remL z t = 8 := by unfold remL; simp [e]
theorem r5 {z : Lx} {t : St} (e : z.ln = 5) : remL z t = 7 := by unfold remL; simp [e]
theorem r6 {z : Lx} {t : St} (e : z.ln = 6) : remL z t = 6 := by unfold remL; simp [e]
theorem r7 {z : Lx} {t : St} (e : z.ln = 7) : remL z t = 5 := by unfold remL; simp [e]
theorem r8 {z : Lx} {t : St} (e : z.ln = 8) : remL z t = 4 := by unfold remL; simp [e]
theorem r9 {z : Lx} {t : St} (e : z.ln = 9) : remL z t = (if Fw t z.n 2 % 2 = 1 then 1 else 3) := by unfold remL; simp [e]
theorem r10 {z : Lx} {t : St} (e : z.ln = 10) : remL z t = 2 := by unfold remL; simp [e]
theorem r11 {z : Lx} {t : St} (e : z.ln = 11) : remL z t = 0 := by unfold remL; simp [e]
section
variable {K : Int → Prop} {y : Lx} {s s' : St} {c v : Int}
theorem rem_sb (h : LdI K y s) (b : Sb K s s') : remL y s' ≤ remL y s := by
  by_cases l9 : y.ln = 9
  · have hk := (h.l7 (by omega) (by omega)).2
    rw [r9 l9, r9 l9]
    by_cases m : Fw s y.n 2 % 2 = 1
    · rw [b.mkd _ hk m]; exact Nat.le_refl _
    · rw [if_neg m]; split <;> omega
  · by_cases l2 : y.ln = 2
    · have hk := (h.l2 (by omega)).1
      rw [r2 l2, r2 l2]
      by_cases m : Fw s y.f1 2 % 2 = 1
      · rw [b.mkd _ hk m]; exact Nat.le_refl _
      · rw [if_neg m]; split <;> omega
    · unfold remL
      simp only [if_neg l9, if_neg l2]
      exact Nat.le_refl _
theorem swap_mk (W : Wd K s) (hc : K c) (h0 : v % 2 = 0) (h1 : v / 2 = Fw s c 2 / 2) : Fw (s.swap (c + 2) v (v + 1)) c 2 % 2 = 1 := by
  have h2 := W.al _ hc
  unfold Fw at *
  rw [swL]
  by_cases e : peek s.l (c + 2) = v
  · rw [if_pos ⟨by omega, by omega, e⟩, pkP, if_pos (by omega)]; omega
  · rw [if_neg (by rintro ⟨-, -, h⟩; exact e h)]; omega
theorem rem_go (h : LdI K y s) (W : Wd K s) (l : y.ln ≠ 11) : remL (y.go s).1 (y.go s).2 < remL y s := by
  have hz := W.sz
  have hc := W.al _ h.ch
  rcases (by have := h.ln; omega : y.ln = 0 ∨ y.ln = 1 ∨ y.ln = 2 ∨ y.ln = 3 ∨ y.ln = 4 ∨ y.ln = 5 ∨ y.ln = 6 ∨ y.ln = 7 ∨ y.ln = 8 ∨ y.ln = 9 ∨ y.ln = 10) with l | l | l | l | l | l | l | l | l | l | l
  · rw [r0 l, r1 (z := (y.go s).1) (by rw [(g0 l).1])]; decide
  · rw [r1 l, r2 (z := (y.go s).1) (by rw [(g1 l).1])]
    show (if Fw (y.go s).2 _ 2 % 2 = 1 then 9 else 11) < 12
    split <;> omega
  · have hf := W.al _ (h.l2 (by omega)).1
    have e1 := (g2 (s := s) l).1
    rw [wr (by omega) (by omega)] at e1
    rw [r2 l]
    show _ < (if Fw s y.f1 2 % 2 = 1 then 9 else 11)
    by_cases m : peek s.l (y.f1 + 2) % 2 = 1
    · rw [if_pos (mk_iff.2 m)] at e1
      rw [r4 (z := (y.go s).1) (by rw [e1]), if_pos (show Fw s y.f1 2 % 2 = 1 from m)]; decide
    · rw [if_neg (fun k => m (mk_iff.1 k))] at e1
      rw [r3 (z := (y.go s).1) (by rw [e1]), if_neg (show ¬ Fw s y.f1 2 % 2 = 1 from m)]; decide
  · obtain ⟨e1, e2⟩ := g3 (s := s) l
    have hx := W.nx _ (h.l2 (by omega)).1
    have hf := W.al _ (h.l2 (by omega)).1
    have h3 := h.l3 l
    rw [wr (by omega) (by omega), wr (by omega) (by omega)] at e2
    have := swap_mk W (h.l2 (by omega)).1 h3.1 h3.2
    rw [r3 l, r2 (z := (y.go s).1) (by rw [e1])]
    show (if Fw (y.go s).2 (y.go s).1.f1 2 % 2 = 1 then 9 else 11) < 10
    rw [if_pos (by rw [e1, e2]; exact this)]; decide
  · have e1 := (g4 (s := s) l).1
    rw [r4 l]
    show _ < 8
    split at e1
    · rw [r5 (z := (y.go s).1) (by rw [e1])]; decide
    · split at e1
      · rw [r11 (z := (y.go s).1) (by rw [e1])]; decide
      · rw [r7 (z := (y.go s).1) (by rw [e1])]; decide
  · rw [r5 l, r6 (z := (y.go s).1) (by rw [(g5 l).1])]; decide
  · have e1 := (g6 (s := s) l).1
    rw [r6 l]
    show _ < 6
    split at e1
    · rw [r11 (z := (y.go s).1) (by rw [e1])]; decide
    · rw [r7 (z := (y.go s).1) (by rw [e1])]; decide
  · rw [r7 l, r8 (z := (y.go s).1) (by rw [(g7 l).1])]; decide
  · have e1 := (g8 (s := s) l).1
    rw [r8 l]
    show _ < 4
    split at e1
    · rw [r9 (z := (y.go s).1) (by rw [e1])]
      show (if Fw (y.go s).2 _ 2 % 2 = 1 then 1 else 3) < 4
      split <;> omega
    · rw [r11 (z := (y.go s).1) (by rw [e1])]; decide
  · have hf := W.al _ (h.l7 (by omega) (by omega)).2
    have e1 := (g9 (s := s) l).1
    rw [wr (by omega) (by omega)] at e1
    rw [r9 l]
    show _ < (if Fw s y.n 2 % 2 = 1 then 1 else 3)
    by_cases m : peek s.l (y.n + 2) % 2 = 1
    · rw [if_pos (mk_iff.2 m)] at e1
      rw [r11 (z := (y.go s).1) (by rw [e1]), if_pos (show Fw s y.n 2 % 2 = 1 from m)]; decide
    · rw [if_neg (fun k => m (mk_iff.1 k))] at e1
      rw [r10 (z := (y.go s).1) (by rw [e1]), if_neg (show ¬ Fw s y.n 2 % 2 = 1 from m)]; decide
  · obtain ⟨e1, e2⟩ := g10 (s := s) l
    have hk := (h.l7 (by omega) (by omega)).2
    have hx := W.nx _ hk
    have hf := W.al _ hk
    have h3 := h.l10 l
    rw [wr (by omega) (by omega), wr (by omega) (by omega)] at e2
    have := swap_mk W hk h3.1 h3.2
    rw [r10 l, r9 (z := (y.go s).1) (by rw [e1])]
    show (if Fw (y.go s).2 (y.go s).1.n 2 % 2 = 1 then 1 else 3) < 2
    rw [if_pos (by rw [e1, e2]; exact this)]; decide
/-- What a leader's words tell: its mate, or 0; what is behind. -/
def Alone (s : St) (l : Int) : Prop := Fw s l 4 = 1 ∨ Fw s l 2 / 2 = 0 ∨ Fw s (Fw s l 2 / 2) 3 ≠ l
instance (s : St) (l : Int) : Decidable (Alone s l) := by unfold Alone; infer_instance
def resM (s : St) (l : Int) : Int := if Alone s l then 0 else Fw s l 2 / 2
def resA (s : St) (l : Int) : Int := if Alone s l then Fw s l 2 / 2 else Fw s (Fw s l 2 / 2) 2 / 2
/-- What one tells that has ended. -/
theorem res (h : LdI K y s) (W : Wd K s) (l : y.ln = 11) : y.rl = Fw s y.ch 3 ∧ y.rm = resM s (Fw s y.ch 3) ∧ y.ra = resA s (Fw s y.ch 3) := by
  have h2 := (h.l2 (by omega)).2
  have hn := h.n W (by omega)
  have hk := (h.l2 (by omega)).1
  have f1 : y.f1 ≠ 0 := by have := W.al _ hk; omega
  unfold Lx.rl Lx.rm Lx.ra resM resA
  rw [if_pos l, if_pos l, if_pos l, h2]
  rcases h.e l with ⟨e1, e2⟩ | ⟨e1, e2, e3, e4, e5⟩
  · have a : Alone s y.f1 := by
      unfold Alone
      rw [← hn]
      rcases e2 with e2 | e2 | e2
      · exact .inl e2
      · exact .inr (.inl e2)
      · exact .inr (.inr e2.2.2)
    have m : ¬ mkL y.f9 = true := fun k => by have := mk_iff.1 k; omega
    rw [if_neg m, if_neg m, if_pos a, if_pos a]
    exact ⟨rfl, rfl, hn⟩
  · have n0 : y.n ≠ 0 := by have := W.al _ e3; omega
    have a : ¬ Alone s y.f1 := by
      unfold Alone
      rw [← hn]
      rintro (k | k | k)
      · exact e2 k
      · exact n0 k
      · exact k e4
    have m : mkL y.f9 = true := mk_iff.2 e1
    have hx := W.nx _ e3
    rw [if_pos m, if_pos m, if_neg a, if_neg a, ← hn, e5]
    exact ⟨rfl, rfl, at_in (by omega) (by omega)⟩
theorem res_mk (h : LdI K y s) (l : y.ln = 11) : Fw s (Fw s y.ch 3) 2 % 2 = 1 ∧ Fw s (Fw s y.ch 3) 4 ≠ 0 ∧ K (Fw s y.ch 3) := by
  rw [(h.l2 (by omega)).2]
  exact ⟨by rw [(h.l4 (by omega)).1]; exact (h.l4 (by omega)).2, h.l6 (by omega), (h.l2 (by omega)).1⟩
theorem res_mm (h : LdI K y s) (W : Wd K s) (l : y.ln = 11) (m : ¬ Alone s (Fw s y.ch 3)) : Fw s (Fw s (Fw s y.ch 3) 2 / 2) 2 % 2 = 1 := by
  have h2 := (h.l2 (by omega)).2
  have hn := h.n W (by omega)
  rw [h2] at m ⊢
  rcases h.e l with ⟨e1, e2⟩ | ⟨e1, e2, e3, e4, e5⟩
  · exfalso; apply m
    unfold Alone
    rw [← hn]
    rcases e2 with e2 | e2 | e2
    · exact .inl e2
    · exact .inr (.inl e2)
    · exact .inr (.inr e2.2.2)
  · rw [← hn, e5]; exact e1
end
end Go.Proofs.Ytfchbbhopfganaa.Le
