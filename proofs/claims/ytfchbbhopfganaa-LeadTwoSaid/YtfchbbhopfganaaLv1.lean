/- The developers' lead over words: what a step changes, what a lead knows, what it tells when it has ended; whatever others do between. -/
import Derived.Test.YtfchbbhopfganaaLe2
namespace Go.Proofs.Ytfchbbhopfganaa.Le
open Go.RowKit Go.Proofs.Ytfchbbhopfganaa.Ar Go.Proofs.Ytfchbbhopfganaa.Mx
set_option linter.unusedVariables false
set_option linter.unusedSimpArgs false
theorem pkD (l : List Int) (q : Int) : peek l q = if 0 ≤ q ∧ q < (l.length : Int) then l.getD q.toNat 0 else 0 := by
  unfold peek isAt nth
  simp only [Bool.and_eq_true, decide_eq_true_eq]
theorem pkP (l : List Int) (p v q : Int) : peek (poke l p v) q = if q = p ∧ 0 ≤ p ∧ p < (l.length : Int) then v else peek l q := by
  by_cases hp : 0 ≤ p ∧ p < (l.length : Int)
  · obtain ⟨k, rfl⟩ := Int.eq_ofNat_of_zero_le hp.1
    have hk : k < l.length := by omega
    have e : poke l (k : Int) v = l.set k v := by unfold poke isAt; simp [hk]
    rw [e, pkD, pkD l, List.length_set]
    by_cases hq : 0 ≤ q ∧ q < (l.length : Int)
    · rw [if_pos hq, if_pos hq]
      by_cases h : q = (k : Int)
      · subst h
        rw [if_pos ⟨rfl, hp⟩, Int.toNat_natCast, List.getD_eq_getElem?_getD, List.getElem?_set_self hk]; rfl
      · rw [if_neg (by omega), List.getD_eq_getElem?_getD, List.getD_eq_getElem?_getD, List.getElem?_set_ne (by omega)]
    · rw [if_neg hq, if_neg hq, if_neg (by omega)]
  · have e : poke l p v = l := by unfold poke; rw [if_neg (by unfold isAt; simp; omega)]
    rw [e, if_neg (by omega)]
theorem lnP (l : List Int) (p v : Int) : (poke l p v).length = l.length := by unfold poke; split <;> simp
theorem swL (s : St) (a o v : Int) : (s.swap a o v).l = if 0 ≤ a ∧ a < (s.l.length : Int) ∧ peek s.l a = o then poke s.l a v else s.l := by
  unfold St.swap St.can isAt
  by_cases h : 0 ≤ a ∧ a < (s.l.length : Int) ∧ peek s.l a = o
  · rw [if_pos h, if_pos (by simp [h.1, h.2.1, h.2.2])]; rfl
  · rw [if_neg h]
    by_cases h2 : (decide (0 ≤ a) && decide (a < (s.l.length : Int)) && (peek s.l a == o)) = true
    · exfalso; simp at h2; exact h ⟨h2.1.1, h2.1.2, h2.2⟩
    · rw [if_neg h2]; rfl
/-- A word of a chunk. -/
def Fw (s : St) (a i : Int) : Int := peek s.l (a + i)
/-- Words in which these are the chunks: their headers lie apart; leaders and nexts are such, or none. -/
structure Wd (K : Int → Prop) (s : St) : Prop where
  sz : (s.l.length : Int) ≤ 1000000000
  al : ∀ a, K a → 1 ≤ a ∧ a + 6 < (s.l.length : Int)
  ap : ∀ a b, K a → K b → a ≠ b → a + 7 ≤ b ∨ b + 7 ≤ a
  ld : ∀ a, K a → Fw s a 3 = 0 ∨ K (Fw s a 3)
  nx : ∀ a, K a → 0 ≤ Fw s a 2 ∧ Fw s a 2 ≤ 4000000001 ∧ (Fw s a 2 / 2 = 0 ∨ K (Fw s a 2 / 2))
/-- What stays, whatever leads do. -/
structure Sb (K : Int → Prop) (s s' : St) : Prop where
  len : s'.l.length = s.l.length
  ld : ∀ a, K a → Fw s a 3 ≠ 0 → Fw s' a 3 = Fw s a 3
  nx : ∀ a, K a → Fw s' a 2 / 2 = Fw s a 2 / 2
  mkd : ∀ a, K a → Fw s a 2 % 2 = 1 → Fw s' a 2 = Fw s a 2
  mt : ∀ a, K a → Fw s a 4 ≠ 0 → Fw s' a 4 = Fw s a 4
theorem Sb.refl (K : Int → Prop) (s : St) : Sb K s s := ⟨rfl, fun _ _ _ => rfl, fun _ _ => rfl, fun _ _ _ => rfl, fun _ _ _ => rfl⟩
theorem Sb.of_eq {K : Int → Prop} {s s' : St} (h : s'.l = s.l) : Sb K s s' := by
  have e : ∀ a i, Fw s' a i = Fw s a i := fun a i => by unfold Fw; rw [h]
  exact ⟨by rw [h], fun _ _ _ => e _ _, fun _ _ => by rw [e], fun _ _ _ => e _ _, fun _ _ _ => e _ _⟩
theorem Sb.trans {K : Int → Prop} {s s' t : St} (h : Sb K s s') (k : Sb K s' t) : Sb K s t :=
  ⟨k.len.trans h.len, fun a e n => (k.ld a e (by rw [h.ld a e n]; exact n)).trans (h.ld a e n), fun a e => (k.nx a e).trans (h.nx a e),
   fun a e n => (k.mkd a e (by rw [h.mkd a e n]; exact n)).trans (h.mkd a e n), fun a e n => (k.mt a e (by rw [h.mt a e n]; exact n)).trans (h.mt a e n)⟩
/-- What a lead knows. -/
structure LdI (K : Int → Prop) (y : Lx) (s : St) : Prop where
  ch : K y.ch
  ln : 0 ≤ y.ln ∧ y.ln ≤ 11
  l1 : 1 ≤ y.ln → Fw s y.ch 3 ≠ 0
  l2 : 2 ≤ y.ln → K y.f1 ∧ Fw s y.ch 3 = y.f1
  l3 : y.ln = 3 → y.f2 % 2 = 0 ∧ y.f2 / 2 = Fw s y.f1 2 / 2
  l4 : 4 ≤ y.ln → Fw s y.f1 2 = y.f2 ∧ y.f2 % 2 = 1
  l6 : 6 ≤ y.ln → Fw s y.f1 4 ≠ 0
  l7 : 7 ≤ y.ln → y.ln ≤ 10 → Fw s y.f1 4 ≠ 1 ∧ K y.n
  l8 : 8 ≤ y.ln → y.ln ≤ 10 → Fw s y.n 3 ≠ 0
  l9 : 9 ≤ y.ln → y.ln ≤ 10 → Fw s y.n 3 = y.f1
  l10 : y.ln = 10 → y.f9 % 2 = 0 ∧ y.f9 / 2 = Fw s y.n 2 / 2
  z9 : y.ln ≤ 9 → y.f9 % 2 = 0
  e : y.ln = 11 → (y.f9 % 2 = 0 ∧ (Fw s y.f1 4 = 1 ∨ y.n = 0 ∨ (K y.n ∧ Fw s y.n 3 ≠ 0 ∧ Fw s y.n 3 ≠ y.f1))) ∨ (y.f9 % 2 = 1 ∧ Fw s y.f1 4 ≠ 1 ∧ K y.n ∧ Fw s y.n 3 = y.f1 ∧ Fw s y.n 2 = y.f9)
theorem at_in {w : Int} (h0 : 0 ≤ w) (h1 : w ≤ 4000000001) : atL w = w / 2 := by unfold atL Word.un; omega
/-- Its n is what its leader's next tells. -/
theorem LdI.n {K : Int → Prop} {y : Lx} {s : St} (h : LdI K y s) (W : Wd K s) (l : 4 ≤ y.ln) : y.n = Fw s y.f1 2 / 2 := by
  obtain ⟨e, -⟩ := h.l4 l
  obtain ⟨h0, h1, -⟩ := W.nx _ (h.l2 (by omega)).1
  unfold Lx.n; rw [← e]; exact at_in h0 h1
theorem LdI.nK {K : Int → Prop} {y : Lx} {s : St} (h : LdI K y s) (W : Wd K s) (l : 4 ≤ y.ln) : y.n = 0 ∨ K y.n := by
  rw [h.n W l]; exact (W.nx _ (h.l2 (by omega)).1).2.2
/-- What others do leaves what it knows. -/
theorem LdI.sb {K : Int → Prop} {y : Lx} {s s' : St} (h : LdI K y s) (b : Sb K s s') : LdI K y s' := by
  refine ⟨h.ch, h.ln, fun l => ?_, fun l => ⟨(h.l2 l).1, ?_⟩, fun l => ⟨(h.l3 l).1, ?_⟩, fun l => ⟨?_, (h.l4 l).2⟩, fun l => ?_, fun l k => ⟨?_, (h.l7 l k).2⟩, fun l k => ?_, fun l k => ?_, fun l => ⟨(h.l10 l).1, ?_⟩, h.z9, fun l => ?_⟩
  · rw [b.ld _ h.ch (h.l1 l)]; exact h.l1 l
  · rw [b.ld _ h.ch (h.l1 (by omega))]; exact (h.l2 l).2
  · rw [b.nx _ (h.l2 (by omega)).1]; exact (h.l3 l).2
  · rw [b.mkd _ (h.l2 (by omega)).1 (by rw [(h.l4 l).1]; exact (h.l4 l).2)]; exact (h.l4 l).1
  · rw [b.mt _ (h.l2 (by omega)).1 (h.l6 l)]; exact h.l6 l
  · rw [b.mt _ (h.l2 (by omega)).1 (h.l6 (by omega))]; exact (h.l7 l k).1
  · rw [b.ld _ (h.l7 (by omega) k).2 (h.l8 l k)]; exact h.l8 l k
  · rw [b.ld _ (h.l7 (by omega) k).2 (h.l8 (by omega) k)]; exact h.l9 l k
  · rw [b.nx _ (h.l7 (by omega) (by omega)).2]; exact (h.l10 l).2
  · rcases h.e l with ⟨h1, h2⟩ | ⟨h1, h2, h3, h4, h5⟩
    · refine .inl ⟨h1, ?_⟩
      rcases h2 with h2 | h2 | ⟨h2, h3, h4⟩
      · left; rw [b.mt _ (h.l2 (by omega)).1 (h.l6 (by omega))]; exact h2
      · exact .inr (.inl h2)
      · refine .inr (.inr ⟨h2, ?_, ?_⟩)
        · rw [b.ld _ h2 h3]; exact h3
        · rw [b.ld _ h2 h3]; exact h4
    · have f1 : y.f1 ≠ 0 := by rw [← (h.l2 (by omega)).2]; exact h.l1 (by omega)
      refine .inr ⟨h1, ?_, h3, ?_, ?_⟩
      · rw [b.mt _ (h.l2 (by omega)).1 (h.l6 (by omega))]; exact h2
      · rw [b.ld _ h3 (by rw [h4]; exact f1)]; exact h4
      · rw [b.mkd _ h3 (by rw [h5]; exact h1)]; exact h5
/-- What a step does to the words. -/
def Eff (y : Lx) (s : St) (l' : List Int) : Prop :=
  l' = s.l ∨ (y.ln = 0 ∧ Fw s y.ch 3 = 0 ∧ l' = poke s.l (y.ch + 3) y.ch) ∨ (y.ln = 3 ∧ Fw s y.f1 2 = y.f2 ∧ l' = poke s.l (y.f1 + 2) (y.f2 + 1)) ∨ (y.ln = 5 ∧ Fw s y.f1 4 = 0 ∧ l' = poke s.l (y.f1 + 4) y.who)
    ∨ (y.ln = 7 ∧ Fw s y.n 3 = 0 ∧ l' = poke s.l (y.n + 3) y.f1) ∨ (y.ln = 10 ∧ Fw s y.n 2 = y.f9 ∧ l' = poke s.l (y.n + 2) (y.f9 + 1))
theorem go_st {y : Lx} {s : St} (h : y.ln ≠ 11) : y.go s = (y.step s, y.act s) := by unfold Lx.go; rw [if_neg h]
theorem wr {a : Int} (h0 : 0 ≤ a) (h1 : a ≤ 9000000000) : wrap64 a = a := w64 (by omega) (by omega)
section
variable {K : Int → Prop} {y : Lx} {s : St}
/-- Each line: the record, the words. -/
theorem g0 (l : y.ln = 0) : (y.go s).1 = { y with f0 := 0, ln := 1 } ∧ (y.go s).2 = s.swap (wrap64 (y.ch + 3)) 0 y.ch := by
  rw [go_st (by omega)]
  refine ⟨?_, ?_⟩
  · unfold Lx.step Lx.drow Lx.told; simp [l]; unfold Lx.put Lx.behL; simp [l]
  · unfold Lx.act; simp [l]
theorem g1 (l : y.ln = 1) : (y.go s).1 = { y with f1 := peek s.l (wrap64 (y.ch + 3)), ln := 2 } ∧ (y.go s).2.l = s.l := by
  rw [go_st (by omega)]
  refine ⟨?_, ?_⟩
  · unfold Lx.step Lx.drow Lx.told; simp [l]; unfold Lx.put Lx.behL; simp [l]
  · unfold Lx.act; simp [l, St.load]; rfl
theorem g2 (l : y.ln = 2) : (y.go s).1 = { y with f2 := peek s.l (wrap64 (y.f1 + 2)), ln := if mkL (peek s.l (wrap64 (y.f1 + 2))) = true then 4 else 3 } ∧ (y.go s).2.l = s.l := by
  rw [go_st (by omega)]
  refine ⟨?_, ?_⟩
  · unfold Lx.step Lx.drow Lx.told; simp [l]; unfold Lx.put Lx.behL; simp [l]
  · unfold Lx.act; simp [l, St.load]; rfl
theorem g3 (l : y.ln = 3) : (y.go s).1 = { y with f3 := 0, ln := 2 } ∧ (y.go s).2 = s.swap (wrap64 (y.f1 + 2)) y.f2 (wrap64 (y.f2 + 1)) := by
  rw [go_st (by omega)]
  refine ⟨?_, ?_⟩
  · unfold Lx.step Lx.drow Lx.told; simp [l]; unfold Lx.put Lx.behL; simp [l]
  · unfold Lx.act; simp [l]
theorem g4 (l : y.ln = 4) : (y.go s).1 = { y with f4 := peek s.l (wrap64 (y.f1 + 4)), ln := if peek s.l (wrap64 (y.f1 + 4)) = 0 then 5 else if peek s.l (wrap64 (y.f1 + 4)) = 1 ∨ y.n = 0 then 11 else 7 } ∧ (y.go s).2.l = s.l := by
  rw [go_st (by omega)]
  refine ⟨?_, ?_⟩
  · unfold Lx.step Lx.drow Lx.told; simp [l]; unfold Lx.put Lx.behL; simp [l, Lx.mateL, Lx.n]; rfl
  · unfold Lx.act; simp [l, St.load]; rfl
theorem g5 (l : y.ln = 5) : (y.go s).1 = { y with dw := true, f5 := 0, ln := 6 } ∧ (y.go s).2 = s.swap (wrap64 (y.f1 + 4)) 0 y.who := by
  rw [go_st (by omega)]
  refine ⟨?_, ?_⟩
  · unfold Lx.step Lx.drow Lx.told; simp [l]; unfold Lx.put Lx.behL; simp [l]
  · unfold Lx.act; simp [l]
theorem g6 (l : y.ln = 6) : (y.go s).1 = { y with f6 := peek s.l (wrap64 (y.f1 + 4)), ln := if peek s.l (wrap64 (y.f1 + 4)) = 1 ∨ y.n = 0 then 11 else 7 } ∧ (y.go s).2.l = s.l := by
  rw [go_st (by omega)]
  refine ⟨?_, ?_⟩
  · unfold Lx.step Lx.drow Lx.told; simp [l]; unfold Lx.put Lx.behL; simp [l, Lx.mateL, Lx.n]; rfl
  · unfold Lx.act; simp [l, St.load]; rfl
theorem g7 (l : y.ln = 7) : (y.go s).1 = { y with f7 := 0, ln := 8 } ∧ (y.go s).2 = s.swap (wrap64 (y.n + 3)) 0 y.f1 := by
  rw [go_st (by omega)]
  refine ⟨?_, ?_⟩
  · unfold Lx.step Lx.drow Lx.told; simp [l]; unfold Lx.put Lx.behL; simp [l]
  · unfold Lx.act; simp [l]
theorem g8 (l : y.ln = 8) : (y.go s).1 = { y with f8 := peek s.l (wrap64 (y.n + 3)), ln := if peek s.l (wrap64 (y.n + 3)) = y.f1 then 9 else 11 } ∧ (y.go s).2.l = s.l := by
  rw [go_st (by omega)]
  refine ⟨?_, ?_⟩
  · unfold Lx.step Lx.drow Lx.told; simp [l]; unfold Lx.put Lx.behL; simp [l]
  · unfold Lx.act; simp [l, St.load]; rfl
theorem g9 (l : y.ln = 9) : (y.go s).1 = { y with f9 := peek s.l (wrap64 (y.n + 2)), ln := if mkL (peek s.l (wrap64 (y.n + 2))) = true then 11 else 10 } ∧ (y.go s).2.l = s.l := by
  rw [go_st (by omega)]
  refine ⟨?_, ?_⟩
  · unfold Lx.step Lx.drow Lx.told; simp [l]; unfold Lx.put Lx.behL; simp [l]
  · unfold Lx.act; simp [l, St.load]; rfl
theorem g10 (l : y.ln = 10) : (y.go s).1 = { y with f10 := 0, ln := 9 } ∧ (y.go s).2 = s.swap (wrap64 (y.n + 2)) y.f9 (wrap64 (y.f9 + 1)) := by
  rw [go_st (by omega)]
  refine ⟨?_, ?_⟩
  · unfold Lx.step Lx.drow Lx.told; simp [l]; unfold Lx.put Lx.behL; simp [l]
  · unfold Lx.act; simp [l]
theorem g11 (l : y.ln = 11) : y.go s = (y, s) := by unfold Lx.go; rw [if_pos l]
theorem eff (h : LdI K y s) (W : Wd K s) : Eff y s (y.go s).2.l := by
  have hc := W.al _ h.ch
  have hz := W.sz
  rcases (by have := h.ln; omega : y.ln = 0 ∨ y.ln = 1 ∨ y.ln = 2 ∨ y.ln = 3 ∨ y.ln = 4 ∨ y.ln = 5 ∨ y.ln = 6 ∨ y.ln = 7 ∨ y.ln = 8 ∨ y.ln = 9 ∨ y.ln = 10 ∨ y.ln = 11) with l | l | l | l | l | l | l | l | l | l | l | l
  · rw [(g0 l).2, wr (by omega) (by omega), swL]
    split
    · rename_i e; exact .inr (.inl ⟨l, e.2.2, rfl⟩)
    · exact .inl rfl
  · exact .inl (g1 l).2
  · exact .inl (g2 l).2
  · have hf := W.al _ (h.l2 (by omega)).1
    have hx := W.nx _ (h.l2 (by omega)).1
    have hy := h.l3 l
    rw [(g3 l).2, wr (by omega) (by omega), wr (by omega) (by omega), swL]
    split
    · rename_i e; exact .inr (.inr (.inl ⟨l, e.2.2, rfl⟩))
    · exact .inl rfl
  · exact .inl (g4 l).2
  · have hf := W.al _ (h.l2 (by omega)).1
    rw [(g5 l).2, wr (by omega) (by omega), swL]
    split
    · rename_i e; exact .inr (.inr (.inr (.inl ⟨l, e.2.2, rfl⟩)))
    · exact .inl rfl
  · exact .inl (g6 l).2
  · have hf := W.al _ (h.l7 (by omega) (by omega)).2
    rw [(g7 l).2, wr (by omega) (by omega), swL]
    split
    · rename_i e; exact .inr (.inr (.inr (.inr (.inl ⟨l, e.2.2, rfl⟩))))
    · exact .inl rfl
  · exact .inl (g8 l).2
  · exact .inl (g9 l).2
  · have hf := W.al _ (h.l7 (by omega) (by omega)).2
    have hx := W.nx _ (h.l7 (by omega) (by omega)).2
    have hy := h.l10 l
    rw [(g10 l).2, wr (by omega) (by omega), wr (by omega) (by omega), swL]
    split
    · rename_i e; exact .inr (.inr (.inr (.inr (.inr ⟨l, e.2.2, rfl⟩))))
    · exact .inl rfl
  · rw [g11 l]; exact .inl rfl
end
end Go.Proofs.Ytfchbbhopfganaa.Le
