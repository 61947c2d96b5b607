/- The developers' lead over words: what is known stays known; how many steps there are; what it tells. -/
import Derived.Test.YtfchbbhopfganaaLv1
namespace Go.Proofs.Ytfchbbhopfganaa.Le
open Go.RowKit Go.Proofs.Ytfchbbhopfganaa.Ar Go.Proofs.Ytfchbbhopfganaa.Mx
set_option linter.unusedVariables false
set_option linter.unusedSimpArgs false
section
variable {K : Int → Prop} {y : Lx} {s s' : St} {c i v : Int}
theorem fw_poke (W : Wd K s) (hc : K c) (hi : 0 ≤ i ∧ i ≤ 6) (he : s'.l = poke s.l (c + i) v) : ∀ a j, K a → 0 ≤ j → j ≤ 6 → Fw s' a j = if a = c ∧ j = i then v else Fw s a j := by
  intro a j ha h0 h6
  have h1 := W.al _ ha
  have h2 := W.al _ hc
  unfold Fw
  rw [he, pkP]
  by_cases e : a = c
  · subst e
    by_cases e2 : j = i
    · subst e2; rw [if_pos (by omega), if_pos ⟨rfl, rfl⟩]
    · rw [if_neg (by omega), if_neg (fun h => e2 h.2)]
  · have := W.ap a c ha hc e
    rw [if_neg (by omega), if_neg (fun h => e h.1)]
theorem poke_sb (W : Wd K s) (hc : K c) (he : s'.l = poke s.l (c + i) v) (h : (i = 3 ∧ Fw s c 3 = 0 ∧ K v) ∨ (i = 2 ∧ v = Fw s c 2 + 1 ∧ Fw s c 2 % 2 = 0) ∨ (i = 4 ∧ Fw s c 4 = 0)) : Sb K s s' ∧ Wd K s' := by
  have hi : 0 ≤ i ∧ i ≤ 6 := by omega
  have F := fw_poke W hc hi he
  have hl : s'.l.length = s.l.length := by rw [he, lnP]
  refine ⟨⟨hl, fun a ha h3 => ?_, fun a ha => ?_, fun a ha h2 => ?_, fun a ha h4 => ?_⟩, ⟨by rw [hl]; exact W.sz, fun a ha => by rw [hl]; exact W.al a ha, W.ap, fun a ha => ?_, fun a ha => ?_⟩⟩
  · rw [F a 3 ha (by decide) (by decide), if_neg]
    rintro ⟨rfl, e⟩; rcases h with ⟨-, h, -⟩ | ⟨h, -⟩ | ⟨h, -⟩
    · exact h3 h
    · omega
    · omega
  · rw [F a 2 ha (by decide) (by decide)]
    split
    · rename_i e; obtain ⟨rfl, e⟩ := e
      rcases h with ⟨h, -⟩ | ⟨-, h, k⟩ | ⟨h, -⟩ <;> omega
    · rfl
  · rw [F a 2 ha (by decide) (by decide), if_neg]
    rintro ⟨rfl, e⟩; rcases h with ⟨h, -⟩ | ⟨-, h, k⟩ | ⟨h, -⟩ <;> omega
  · rw [F a 4 ha (by decide) (by decide), if_neg]
    rintro ⟨rfl, e⟩; rcases h with ⟨h, -⟩ | ⟨h, -⟩ | ⟨-, h⟩
    · omega
    · omega
    · exact h4 h
  · rw [F a 3 ha (by decide) (by decide)]
    split
    · rename_i e; rcases h with ⟨-, -, h⟩ | ⟨h, -⟩ | ⟨h, -⟩
      · exact .inr h
      · omega
      · omega
    · exact W.ld a ha
  · rw [F a 2 ha (by decide) (by decide)]
    have hx := W.nx a ha
    split
    · rename_i e; obtain ⟨rfl, e⟩ := e
      rcases h with ⟨h, -⟩ | ⟨-, h, k⟩ | ⟨h, -⟩
      · omega
      · refine ⟨by omega, by omega, ?_⟩
        rw [show v / 2 = Fw s a 2 / 2 by omega]; exact hx.2.2
      · omega
    · exact hx
/-- A step keeps what stays. -/
theorem go_sb (h : LdI K y s) (W : Wd K s) : Sb K s (y.go s).2 ∧ Wd K (y.go s).2 := by
  rcases eff h W with e | ⟨l, h0, e⟩ | ⟨l, h0, e⟩ | ⟨l, h0, e⟩ | ⟨l, h0, e⟩ | ⟨l, h0, e⟩
  · refine ⟨Sb.of_eq e, ?_⟩
    have q : ∀ a i, Fw (y.go s).2 a i = Fw s a i := fun a i => by unfold Fw; rw [e]
    exact ⟨by rw [e]; exact W.sz, fun a ha => by rw [e]; exact W.al a ha, W.ap, fun a ha => by rw [q]; exact W.ld a ha, fun a ha => by rw [q]; exact W.nx a ha⟩
  · exact poke_sb W h.ch e (.inl ⟨rfl, h0, h.ch⟩)
  · exact poke_sb W (h.l2 (by omega)).1 e (.inr (.inl ⟨rfl, by rw [h0], by rw [h0]; exact (h.l3 l).1⟩))
  · exact poke_sb W (h.l2 (by omega)).1 e (.inr (.inr ⟨rfl, h0⟩))
  · exact poke_sb W (h.l7 (by omega) (by omega)).2 e (.inl ⟨rfl, h0, (h.l2 (by omega)).1⟩)
  · exact poke_sb W (h.l7 (by omega) (by omega)).2 e (.inr (.inl ⟨rfl, by rw [h0], by rw [h0]; exact (h.l10 l).1⟩))
/-- Behind a swap of what was 0 it is not 0. -/
theorem swap_nz (W : Wd K s) (hc : K c) (hi : 0 ≤ i ∧ i ≤ 6) (hv : v ≠ 0) : Fw (s.swap (c + i) 0 v) c i ≠ 0 := by
  have h2 := W.al _ hc
  unfold Fw
  rw [swL]
  by_cases e : peek s.l (c + i) = 0
  · rw [if_pos ⟨by omega, by omega, e⟩, pkP, if_pos (by omega)]; exact hv
  · rw [if_neg (by rintro ⟨-, -, h⟩; exact e h)]; exact e
theorem mk_iff {v : Int} : mkL v = true ↔ v % 2 = 1 := by unfold mkL; simp
/-- A step keeps what a lead knows. -/
theorem LdI.go (h : LdI K y s) (W : Wd K s) : LdI K (y.go s).1 (y.go s).2 := by
  obtain ⟨S, W'⟩ := go_sb h W
  have I := h.sb S
  have hz := W.sz
  have hc := W.al _ h.ch
  rcases (by have := h.ln; omega : y.ln = 0 ∨ y.ln = 1 ∨ y.ln = 2 ∨ y.ln = 3 ∨ y.ln = 4 ∨ y.ln = 5 ∨ y.ln = 6 ∨ y.ln = 7 ∨ y.ln = 8 ∨ y.ln = 9 ∨ y.ln = 10 ∨ y.ln = 11) with l | l | l | l | l | l | l | l | l | l | l | l
  · obtain ⟨e1, e2⟩ := g0 (s := s) l
    have nz : Fw (y.go s).2 y.ch 3 ≠ 0 := by rw [e2, wr (by omega) (by omega)]; exact swap_nz W h.ch (by decide) (by omega)
    rw [e1]
    exact ⟨I.ch, by show (0 : Int) ≤ 1 ∧ (1 : Int) ≤ 11; omega, fun _ => nz, fun k => absurd (show (2 : Int) ≤ 1 from k) (by decide), fun k => absurd (show (1 : Int) = 3 from k) (by decide), fun k => absurd (show (4 : Int) ≤ 1 from k) (by decide), fun k => absurd (show (6 : Int) ≤ 1 from k) (by decide), fun k => absurd (show (7 : Int) ≤ 1 from k) (by decide), fun k => absurd (show (8 : Int) ≤ 1 from k) (by decide), fun k => absurd (show (9 : Int) ≤ 1 from k) (by decide), fun k => absurd (show (1 : Int) = 10 from k) (by decide), fun _ => h.z9 (by omega), fun k => absurd (show (1 : Int) = 11 from k) (by decide)⟩
  · obtain ⟨e1, e2⟩ := g1 (s := s) l
    rw [wr (by omega) (by omega)] at e1
    have hp : Fw (y.go s).2 y.ch 3 = peek s.l (y.ch + 3) := by unfold Fw; rw [e2]
    have nz := I.l1 (by omega)
    have hk : K (peek s.l (y.ch + 3)) := by
      rcases W'.ld _ h.ch with k | k
      · exact absurd k nz
      · rw [hp] at k; exact k
    rw [e1]
    exact ⟨I.ch, by show (0 : Int) ≤ 2 ∧ (2 : Int) ≤ 11; omega, fun _ => nz, fun _ => ⟨hk, hp⟩, fun k => absurd (show (2 : Int) = 3 from k) (by decide), fun k => absurd (show (4 : Int) ≤ 2 from k) (by decide), fun k => absurd (show (6 : Int) ≤ 2 from k) (by decide), fun k => absurd (show (7 : Int) ≤ 2 from k) (by decide), fun k => absurd (show (8 : Int) ≤ 2 from k) (by decide), fun k => absurd (show (9 : Int) ≤ 2 from k) (by decide), fun k => absurd (show (2 : Int) = 10 from k) (by decide), fun _ => h.z9 (by omega), fun k => absurd (show (2 : Int) = 11 from k) (by decide)⟩
  · have hf := W.al _ (h.l2 (by omega)).1
    obtain ⟨e1, e2⟩ := g2 (s := s) l
    rw [wr (by omega) (by omega)] at e1
    have hp : Fw (y.go s).2 y.f1 2 = peek s.l (y.f1 + 2) := by unfold Fw; rw [e2]
    have nz := I.l1 (by omega)
    have l2 := I.l2 (by omega)
    by_cases m : peek s.l (y.f1 + 2) % 2 = 1
    · rw [if_pos (mk_iff.2 m)] at e1
      rw [e1]
      exact ⟨I.ch, by show (0 : Int) ≤ 4 ∧ (4 : Int) ≤ 11; omega, fun _ => nz, fun _ => l2, fun k => absurd (show (4 : Int) = 3 from k) (by decide), fun _ => ⟨hp, m⟩, fun k => absurd (show (6 : Int) ≤ 4 from k) (by decide), fun k => absurd (show (7 : Int) ≤ 4 from k) (by decide), fun k => absurd (show (8 : Int) ≤ 4 from k) (by decide), fun k => absurd (show (9 : Int) ≤ 4 from k) (by decide), fun k => absurd (show (4 : Int) = 10 from k) (by decide), fun _ => h.z9 (by omega), fun k => absurd (show (4 : Int) = 11 from k) (by decide)⟩
    · rw [if_neg (fun k => m (mk_iff.1 k))] at e1
      rw [e1]
      exact ⟨I.ch, by show (0 : Int) ≤ 3 ∧ (3 : Int) ≤ 11; omega, fun _ => nz, fun _ => l2, fun _ => ⟨by show peek s.l (y.f1 + 2) % 2 = 0; omega, by rw [hp]⟩, fun k => absurd (show (4 : Int) ≤ 3 from k) (by decide), fun k => absurd (show (6 : Int) ≤ 3 from k) (by decide), fun k => absurd (show (7 : Int) ≤ 3 from k) (by decide), fun k => absurd (show (8 : Int) ≤ 3 from k) (by decide), fun k => absurd (show (9 : Int) ≤ 3 from k) (by decide), fun k => absurd (show (3 : Int) = 10 from k) (by decide), fun _ => h.z9 (by omega), fun k => absurd (show (3 : Int) = 11 from k) (by decide)⟩
  · obtain ⟨e1, e2⟩ := g3 (s := s) l
    have nz := I.l1 (by omega)
    have l2 := I.l2 (by omega)
    rw [e1]
    exact ⟨I.ch, by show (0 : Int) ≤ 2 ∧ (2 : Int) ≤ 11; omega, fun _ => nz, fun _ => l2, fun k => absurd (show (2 : Int) = 3 from k) (by decide), fun k => absurd (show (4 : Int) ≤ 2 from k) (by decide), fun k => absurd (show (6 : Int) ≤ 2 from k) (by decide), fun k => absurd (show (7 : Int) ≤ 2 from k) (by decide), fun k => absurd (show (8 : Int) ≤ 2 from k) (by decide), fun k => absurd (show (9 : Int) ≤ 2 from k) (by decide), fun k => absurd (show (2 : Int) = 10 from k) (by decide), fun _ => h.z9 (by omega), fun k => absurd (show (2 : Int) = 11 from k) (by decide)⟩
  all_goals (have hf := W.al _ (h.l2 (by omega)).1)
  all_goals (have nz := I.l1 (by omega))
  all_goals (have l2 := I.l2 (by omega))
  all_goals (have l4 := I.l4 (by omega))
  · obtain ⟨e1, e2⟩ := g4 (s := s) l
    rw [wr (by omega) (by omega)] at e1
    have hp : Fw (y.go s).2 y.f1 4 = peek s.l (y.f1 + 4) := by unfold Fw; rw [e2]
    by_cases m : peek s.l (y.f1 + 4) = 0
    · rw [if_pos m] at e1
      rw [e1]
      exact ⟨I.ch, by show (0 : Int) ≤ 5 ∧ (5 : Int) ≤ 11; omega, fun _ => nz, fun _ => l2, fun k => absurd (show (5 : Int) = 3 from k) (by decide), fun _ => l4, fun k => absurd (show (6 : Int) ≤ 5 from k) (by decide), fun k => absurd (show (7 : Int) ≤ 5 from k) (by decide), fun k => absurd (show (8 : Int) ≤ 5 from k) (by decide), fun k => absurd (show (9 : Int) ≤ 5 from k) (by decide), fun k => absurd (show (5 : Int) = 10 from k) (by decide), fun _ => h.z9 (by omega), fun k => absurd (show (5 : Int) = 11 from k) (by decide)⟩
    · rw [if_neg m] at e1
      by_cases m2 : peek s.l (y.f1 + 4) = 1 ∨ y.n = 0
      · rw [if_pos m2] at e1
        rw [e1]
        refine ⟨I.ch, by show (0 : Int) ≤ 11 ∧ (11 : Int) ≤ 11; omega, fun _ => nz, fun _ => l2, fun k => absurd (show (11 : Int) = 3 from k) (by decide), fun _ => l4, fun _ => by rw [show Fw (y.go s).2 _ 4 = peek s.l (y.f1 + 4) from hp]; exact m, fun _ k => absurd (show (11 : Int) ≤ 10 from k) (by decide), fun _ k => absurd (show (11 : Int) ≤ 10 from k) (by decide), fun _ k => absurd (show (11 : Int) ≤ 10 from k) (by decide), fun k => absurd (show (11 : Int) = 10 from k) (by decide), fun k => absurd (show (11 : Int) ≤ 9 from k) (by decide), fun _ => .inl ⟨h.z9 (by omega), ?_⟩⟩
        rcases m2 with m2 | m2
        · left; exact hp.trans m2
        · exact .inr (.inl m2)
      · rw [if_neg m2] at e1
        rw [e1]
        exact ⟨I.ch, by show (0 : Int) ≤ 7 ∧ (7 : Int) ≤ 11; omega, fun _ => nz, fun _ => l2, fun k => absurd (show (7 : Int) = 3 from k) (by decide), fun _ => l4, fun _ => by rw [show Fw (y.go s).2 _ 4 = peek s.l (y.f1 + 4) from hp]; exact m, fun _ _ => ⟨by rw [show Fw (y.go s).2 _ 4 = peek s.l (y.f1 + 4) from hp]; exact fun k => m2 (.inl k), (h.nK W (by omega)).resolve_left (fun k => m2 (.inr k))⟩, fun k => absurd (show (8 : Int) ≤ 7 from k) (by decide), fun k => absurd (show (9 : Int) ≤ 7 from k) (by decide), fun k => absurd (show (7 : Int) = 10 from k) (by decide), fun _ => h.z9 (by omega), fun k => absurd (show (7 : Int) = 11 from k) (by decide)⟩
  · obtain ⟨e1, e2⟩ := g5 (s := s) l
    have hw : y.who ≠ 0 := by
      unfold Lx.who
      by_cases k : y.dr = true ∧ y.n ≠ 0
      · rw [if_pos k]; exact k.2
      · rw [if_neg k]; decide
    have nm : Fw (y.go s).2 y.f1 4 ≠ 0 := by rw [e2, wr (by omega) (by omega)]; exact swap_nz W (h.l2 (by omega)).1 (by decide) hw
    rw [e1]
    exact ⟨I.ch, by show (0 : Int) ≤ 6 ∧ (6 : Int) ≤ 11; omega, fun _ => nz, fun _ => l2, fun k => absurd (show (6 : Int) = 3 from k) (by decide), fun _ => l4, fun _ => nm, fun k => absurd (show (7 : Int) ≤ 6 from k) (by decide), fun k => absurd (show (8 : Int) ≤ 6 from k) (by decide), fun k => absurd (show (9 : Int) ≤ 6 from k) (by decide), fun k => absurd (show (6 : Int) = 10 from k) (by decide), fun _ => h.z9 (by omega), fun k => absurd (show (6 : Int) = 11 from k) (by decide)⟩
  · obtain ⟨e1, e2⟩ := g6 (s := s) l
    rw [wr (by omega) (by omega)] at e1
    have hp : Fw (y.go s).2 y.f1 4 = peek s.l (y.f1 + 4) := by unfold Fw; rw [e2]
    have l6 := I.l6 (by omega)
    by_cases m2 : peek s.l (y.f1 + 4) = 1 ∨ y.n = 0
    · rw [if_pos m2] at e1
      rw [e1]
      refine ⟨I.ch, by show (0 : Int) ≤ 11 ∧ (11 : Int) ≤ 11; omega, fun _ => nz, fun _ => l2, fun k => absurd (show (11 : Int) = 3 from k) (by decide), fun _ => l4, fun _ => l6, fun _ k => absurd (show (11 : Int) ≤ 10 from k) (by decide), fun _ k => absurd (show (11 : Int) ≤ 10 from k) (by decide), fun _ k => absurd (show (11 : Int) ≤ 10 from k) (by decide), fun k => absurd (show (11 : Int) = 10 from k) (by decide), fun k => absurd (show (11 : Int) ≤ 9 from k) (by decide), fun _ => .inl ⟨h.z9 (by omega), ?_⟩⟩
      rcases m2 with m2 | m2
      · left; exact hp.trans m2
      · exact .inr (.inl m2)
    · rw [if_neg m2] at e1
      rw [e1]
      exact ⟨I.ch, by show (0 : Int) ≤ 7 ∧ (7 : Int) ≤ 11; omega, fun _ => nz, fun _ => l2, fun k => absurd (show (7 : Int) = 3 from k) (by decide), fun _ => l4, fun _ => l6, fun _ _ => ⟨by rw [show Fw (y.go s).2 _ 4 = peek s.l (y.f1 + 4) from hp]; exact fun k => m2 (.inl k), (h.nK W (by omega)).resolve_left (fun k => m2 (.inr k))⟩, fun k => absurd (show (8 : Int) ≤ 7 from k) (by decide), fun k => absurd (show (9 : Int) ≤ 7 from k) (by decide), fun k => absurd (show (7 : Int) = 10 from k) (by decide), fun _ => h.z9 (by omega), fun k => absurd (show (7 : Int) = 11 from k) (by decide)⟩
  · obtain ⟨e1, e2⟩ := g7 (s := s) l
    have l7 := I.l7 (by omega) (by omega)
    have hn := W.al _ l7.2
    have n3 : Fw (y.go s).2 y.n 3 ≠ 0 := by rw [e2, wr (by omega) (by omega)]; exact swap_nz W l7.2 (by decide) (by omega)
    rw [e1]
    exact ⟨I.ch, by show (0 : Int) ≤ 8 ∧ (8 : Int) ≤ 11; omega, fun _ => nz, fun _ => l2, fun k => absurd (show (8 : Int) = 3 from k) (by decide), fun _ => l4, fun _ => I.l6 (by omega), fun _ _ => l7, fun _ _ => n3, fun k => absurd (show (9 : Int) ≤ 8 from k) (by decide), fun k => absurd (show (8 : Int) = 10 from k) (by decide), fun _ => h.z9 (by omega), fun k => absurd (show (8 : Int) = 11 from k) (by decide)⟩
  · obtain ⟨e1, e2⟩ := g8 (s := s) l
    have l7 := I.l7 (by omega) (by omega)
    have l8 := I.l8 (by omega) (by omega)
    have hn := W.al _ l7.2
    rw [wr (by omega) (by omega)] at e1
    have hp : Fw (y.go s).2 y.n 3 = peek s.l (y.n + 3) := by unfold Fw; rw [e2]
    by_cases m : peek s.l (y.n + 3) = y.f1
    · rw [if_pos m] at e1
      rw [e1]
      exact ⟨I.ch, by show (0 : Int) ≤ 9 ∧ (9 : Int) ≤ 11; omega, fun _ => nz, fun _ => l2, fun k => absurd (show (9 : Int) = 3 from k) (by decide), fun _ => l4, fun _ => I.l6 (by omega), fun _ _ => l7, fun _ _ => l8, fun _ _ => hp.trans m, fun k => absurd (show (9 : Int) = 10 from k) (by decide), fun _ => h.z9 (by omega), fun k => absurd (show (9 : Int) = 11 from k) (by decide)⟩
    · rw [if_neg m] at e1
      rw [e1]
      exact ⟨I.ch, by show (0 : Int) ≤ 11 ∧ (11 : Int) ≤ 11; omega, fun _ => nz, fun _ => l2, fun k => absurd (show (11 : Int) = 3 from k) (by decide), fun _ => l4, fun _ => I.l6 (by omega), fun _ k => absurd (show (11 : Int) ≤ 10 from k) (by decide), fun _ k => absurd (show (11 : Int) ≤ 10 from k) (by decide), fun _ k => absurd (show (11 : Int) ≤ 10 from k) (by decide), fun k => absurd (show (11 : Int) = 10 from k) (by decide), fun k => absurd (show (11 : Int) ≤ 9 from k) (by decide), fun _ => .inl ⟨h.z9 (by omega), .inr (.inr ⟨l7.2, l8, fun k => m (hp.symm.trans k)⟩)⟩⟩
  · obtain ⟨e1, e2⟩ := g9 (s := s) l
    have l7 := I.l7 (by omega) (by omega)
    have l8 := I.l8 (by omega) (by omega)
    have l9 := I.l9 (by omega) (by omega)
    have hn := W.al _ l7.2
    rw [wr (by omega) (by omega)] at e1
    have hp : Fw (y.go s).2 y.n 2 = peek s.l (y.n + 2) := by unfold Fw; rw [e2]
    by_cases m : peek s.l (y.n + 2) % 2 = 1
    · rw [if_pos (mk_iff.2 m)] at e1
      rw [e1]
      exact ⟨I.ch, by show (0 : Int) ≤ 11 ∧ (11 : Int) ≤ 11; omega, fun _ => nz, fun _ => l2, fun k => absurd (show (11 : Int) = 3 from k) (by decide), fun _ => l4, fun _ => I.l6 (by omega), fun _ k => absurd (show (11 : Int) ≤ 10 from k) (by decide), fun _ k => absurd (show (11 : Int) ≤ 10 from k) (by decide), fun _ k => absurd (show (11 : Int) ≤ 10 from k) (by decide), fun k => absurd (show (11 : Int) = 10 from k) (by decide), fun k => absurd (show (11 : Int) ≤ 9 from k) (by decide), fun _ => .inr ⟨m, l7.1, l7.2, l9, hp⟩⟩
    · rw [if_neg (fun k => m (mk_iff.1 k))] at e1
      rw [e1]
      exact ⟨I.ch, by show (0 : Int) ≤ 10 ∧ (10 : Int) ≤ 11; omega, fun _ => nz, fun _ => l2, fun k => absurd (show (10 : Int) = 3 from k) (by decide), fun _ => l4, fun _ => I.l6 (by omega), fun _ _ => l7, fun _ _ => l8, fun _ _ => l9, fun _ => ⟨by show peek s.l (y.n + 2) % 2 = 0; omega, by show _ = Fw _ y.n 2 / 2; rw [hp]⟩, fun k => absurd (show (10 : Int) ≤ 9 from k) (by decide), fun k => absurd (show (10 : Int) = 11 from k) (by decide)⟩
  · obtain ⟨e1, e2⟩ := g10 (s := s) l
    have l7 := I.l7 (by omega) (by omega)
    have l8 := I.l8 (by omega) (by omega)
    have l9 := I.l9 (by omega) (by omega)
    rw [e1]
    exact ⟨I.ch, by show (0 : Int) ≤ 9 ∧ (9 : Int) ≤ 11; omega, fun _ => nz, fun _ => l2, fun k => absurd (show (9 : Int) = 3 from k) (by decide), fun _ => l4, fun _ => I.l6 (by omega), fun _ _ => l7, fun _ _ => l8, fun _ _ => l9, fun k => absurd (show (9 : Int) = 10 from k) (by decide), fun _ => (h.l10 l).1, fun k => absurd (show (9 : Int) = 11 from k) (by decide)⟩
  · rw [g11 l]; exact h
theorem LdI.new {c : Int} (hc : K c) (dr : Bool) (s : St) : LdI K (Lx.new c dr) s :=
  ⟨hc, by show (0 : Int) ≤ 0 ∧ (0 : Int) ≤ 11; omega, fun k => absurd (show (1 : Int) ≤ 0 from k) (by decide), fun k => absurd (show (2 : Int) ≤ 0 from k) (by decide), fun k => absurd (show (0 : Int) = 3 from k) (by decide), fun k => absurd (show (4 : Int) ≤ 0 from k) (by decide), fun k => absurd (show (6 : Int) ≤ 0 from k) (by decide), fun k => absurd (show (7 : Int) ≤ 0 from k) (by decide), fun k => absurd (show (8 : Int) ≤ 0 from k) (by decide), fun k => absurd (show (9 : Int) ≤ 0 from k) (by decide), fun k => absurd (show (0 : Int) = 10 from k) (by decide), fun _ => rfl, fun k => absurd (show (0 : Int) = 11 from k) (by decide)⟩
end
end Go.Proofs.Ytfchbbhopfganaa.Le
