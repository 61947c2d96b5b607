/- LeadTwo: two neighbours, each of them led. -/
import Derived.Test.YtfchbbhopfganaaLv3
namespace Go.Proofs.Ytfchbbhopfganaa.Le
open Go.RowKit Go.Proofs.Ytfchbbhopfganaa.Ar Go.Proofs.Ytfchbbhopfganaa.Mx
set_option linter.unusedVariables false
set_option linter.unusedSimpArgs false
set_option maxRecDepth 100000
def K3 (a : Int) : Prop := a = 100 ∨ a = 200 ∨ a = 300
def bI (b : Bool) : Int := if b = true then 300 else 0
/-- What holds of the words of the three chunks. -/
structure Sy (two more : Bool) (s : St) : Prop where
  W : Wd K3 s
  a3 : Fw s 100 3 = 0 ∨ Fw s 100 3 = 100
  b3 : Fw s 200 3 = 0 ∨ Fw s 200 3 = 100 ∨ Fw s 200 3 = 200
  c3 : Fw s 300 3 = 0 ∨ Fw s 300 3 = 200
  b1 : Fw s 200 3 = 100 → Fw s 100 4 ≠ 0 ∧ Fw s 100 4 ≠ 1
  b4 : Fw s 200 4 = 0 ∨ Fw s 200 4 = 1 ∨ (two = true ∧ more = true)
  a2 : Fw s 100 2 / 2 = 200
  b2 : Fw s 200 2 / 2 = bI more
  c2 : Fw s 300 2 / 2 = 0
section
variable {two more : Bool} {x y z : Lx} {s : St}
theorem k1 : K3 100 := .inl rfl
theorem k2 : K3 200 := .inr (.inl rfl)
theorem k3 : K3 300 := .inr (.inr rfl)
theorem Sy.go (S : Sy two more s) (h : LdI K3 z s) (hz : z.ch = 100 ∨ (z.ch = 200 ∧ z.dr = two)) : Sy two more (z.go s).2 := by
  obtain ⟨sb, W'⟩ := go_sb h S.W
  have n1 := sb.nx 100 k1
  have n2 := sb.nx 200 k2
  have n3 := sb.nx 300 k3
  have a2 := n1.trans S.a2
  have b2 := n2.trans S.b2
  have c2 := n3.trans S.c2
  -- whom a lead leads, if it leads
  have f1 : 2 ≤ z.ln → z.f1 = 100 ∨ (z.f1 = 200 ∧ z.dr = two) := fun l => by
    have h2 := h.l2 l
    have h1 := h.l1 (by omega)
    have a3 := S.a3
    have b3 := S.b3
    rcases hz with e | ⟨e, d⟩
    · rw [e] at h2 h1; left; omega
    · rw [e] at h2 h1
      rcases (by omega : z.f1 = 100 ∨ z.f1 = 200) with k | k
      · exact .inl k
      · exact .inr ⟨k, d⟩
  rcases eff h S.W with e | ⟨l, h0, e⟩ | ⟨l, h0, e⟩ | ⟨l, h0, e⟩ | ⟨l, h0, e⟩ | ⟨l, h0, e⟩
  · have q : ∀ a i, Fw (z.go s).2 a i = Fw s a i := fun a i => by unfold Fw; rw [e]
    exact ⟨W', by rw [q]; exact S.a3, by rw [q]; exact S.b3, by rw [q]; exact S.c3, by rw [q, q]; exact S.b1, by rw [q]; exact S.b4, a2, b2, c2⟩
  · have F := fw_poke S.W h.ch (by decide) e
    have g1 := F 100 3 k1 (by decide) (by decide)
    have g2 := F 200 3 k2 (by decide) (by decide)
    have g3 := F 300 3 k3 (by decide) (by decide)
    have g4 := F 100 4 k1 (by decide) (by decide)
    have g5 := F 200 4 k2 (by decide) (by decide)
    rw [if_neg (by omega)] at g3 g4 g5
    rcases hz with e1 | ⟨e1, -⟩
    · rw [if_pos ⟨e1.symm, rfl⟩, e1] at g1
      rw [if_neg (by omega)] at g2
      exact ⟨W', .inr g1, by rw [g2]; exact S.b3, by rw [g3]; exact S.c3, by rw [g2, g4]; exact S.b1, by rw [g5]; exact S.b4, a2, b2, c2⟩
    · rw [if_pos ⟨e1.symm, rfl⟩, e1] at g2
      rw [if_neg (by omega)] at g1
      exact ⟨W', by rw [g1]; exact S.a3, .inr (.inr g2), by rw [g3]; exact S.c3, by rw [g2]; intro k; omega, by rw [g5]; exact S.b4, a2, b2, c2⟩
  · have F := fw_poke S.W (h.l2 (by omega)).1 (by decide) e
    have g1 := F 100 3 k1 (by decide) (by decide)
    have g2 := F 200 3 k2 (by decide) (by decide)
    have g3 := F 300 3 k3 (by decide) (by decide)
    have g4 := F 100 4 k1 (by decide) (by decide)
    have g5 := F 200 4 k2 (by decide) (by decide)
    rw [if_neg (by omega)] at g1 g2 g3 g4 g5
    exact ⟨W', by rw [g1]; exact S.a3, by rw [g2]; exact S.b3, by rw [g3]; exact S.c3, by rw [g2, g4]; exact S.b1, by rw [g5]; exact S.b4, a2, b2, c2⟩
  · have F := fw_poke S.W (h.l2 (by omega)).1 (by decide) e
    have g1 := F 100 3 k1 (by decide) (by decide)
    have g2 := F 200 3 k2 (by decide) (by decide)
    have g3 := F 300 3 k3 (by decide) (by decide)
    have g4 := F 100 4 k1 (by decide) (by decide)
    have g5 := F 200 4 k2 (by decide) (by decide)
    rw [if_neg (by omega)] at g1 g2 g3
    have hn := h.n S.W (by omega)
    rcases f1 (by omega) with e1 | ⟨e1, d⟩
    · rw [e1] at h0
      rw [if_neg (by omega)] at g5
      refine ⟨W', by rw [g1]; exact S.a3, by rw [g2]; exact S.b3, by rw [g3]; exact S.c3, ?_, by rw [g5]; exact S.b4, a2, b2, c2⟩
      rw [g2]; intro k; exact absurd h0 (S.b1 k).1
    · rw [if_neg (by omega)] at g4
      rw [if_pos ⟨e1.symm, rfl⟩] at g5
      refine ⟨W', by rw [g1]; exact S.a3, by rw [g2]; exact S.b3, by rw [g3]; exact S.c3, by rw [g2, g4]; exact S.b1, ?_, a2, b2, c2⟩
      rw [g5]
      unfold Lx.who
      rw [hn, e1, S.b2, d]
      unfold bI
      cases two <;> cases more <;> simp
  · have h7 := h.l7 (by omega) (by omega)
    have F := fw_poke S.W h7.2 (by decide) e
    have g1 := F 100 3 k1 (by decide) (by decide)
    have g2 := F 200 3 k2 (by decide) (by decide)
    have g3 := F 300 3 k3 (by decide) (by decide)
    have g4 := F 100 4 k1 (by decide) (by decide)
    have g5 := F 200 4 k2 (by decide) (by decide)
    rw [if_neg (by omega)] at g4 g5
    have hn := h.n S.W (by omega)
    have h6 := h.l6 (by omega)
    rcases f1 (by omega) with e1 | ⟨e1, d⟩
    · rw [e1, S.a2] at hn
      rw [hn] at g1 g2 g3
      rw [if_neg (by omega)] at g1 g3
      rw [if_pos ⟨rfl, rfl⟩, e1] at g2
      rw [e1] at h6 h7
      exact ⟨W', by rw [g1]; exact S.a3, .inr (.inl g2), by rw [g3]; exact S.c3, by rw [g4]; exact fun _ => ⟨h6, h7.1⟩, by rw [g5]; exact S.b4, a2, b2, c2⟩
    · rw [e1, S.b2] at hn
      have hn3 : z.n = 300 := by
        have := S.W.al _ h7.2
        unfold bI at hn
        split at hn <;> omega
      rw [hn3] at g1 g2 g3
      rw [if_neg (by omega)] at g1 g2
      rw [if_pos ⟨rfl, rfl⟩, e1] at g3
      exact ⟨W', by rw [g1]; exact S.a3, by rw [g2]; exact S.b3, .inr g3, by rw [g2, g4]; exact S.b1, by rw [g5]; exact S.b4, a2, b2, c2⟩
  · have F := fw_poke S.W (h.l7 (by omega) (by omega)).2 (by decide) e
    have g1 := F 100 3 k1 (by decide) (by decide)
    have g2 := F 200 3 k2 (by decide) (by decide)
    have g3 := F 300 3 k3 (by decide) (by decide)
    have g4 := F 100 4 k1 (by decide) (by decide)
    have g5 := F 200 4 k2 (by decide) (by decide)
    rw [if_neg (by omega)] at g1 g2 g3 g4 g5
    exact ⟨W', by rw [g1]; exact S.a3, by rw [g2]; exact S.b3, by rw [g3]; exact S.c3, by rw [g2, g4]; exact S.b1, by rw [g5]; exact S.b4, a2, b2, c2⟩
/-- The two. -/
structure T2 (two more : Bool) (x y : Lx) (s : St) : Prop where
  S : Sy two more s
  hx : LdI K3 x s
  hy : LdI K3 y s
  cx : x.ch = 100
  cy : y.ch = 200
  dy : y.dr = two
theorem go_ch (z : Lx) (s : St) : (z.go s).1.ch = z.ch ∧ (z.go s).1.dr = z.dr := by
  have hp : ∀ (u : Lx) (v : Int), (u.put v).ch = u.ch ∧ (u.put v).dr = u.dr := fun u v => by unfold Lx.put; (repeat' split) <;> exact ⟨rfl, rfl⟩
  have hd : z.drow.ch = z.ch ∧ z.drow.dr = z.dr := by unfold Lx.drow; split <;> exact ⟨rfl, rfl⟩
  unfold Lx.go
  by_cases e : z.ln = 11
  · rw [if_pos e]; exact ⟨rfl, rfl⟩
  · rw [if_neg e]; exact ⟨(hp _ _).1.trans hd.1, (hp _ _).2.trans hd.2⟩
theorem T2.sx (t : T2 two more x y s) : T2 two more (x.go s).1 y (x.go s).2 ∧ (remL (x.go s).1 (x.go s).2 ≤ remL x s - 1) ∧ remL y (x.go s).2 ≤ remL y s := by
  have sb := (go_sb t.hx t.S.W).1
  refine ⟨⟨t.S.go t.hx (.inl t.cx), t.hx.go t.S.W, t.hy.sb sb, (go_ch x s).1.trans t.cx, t.cy, t.dy⟩, ?_, rem_sb t.hy sb⟩
  by_cases l : x.ln = 11
  · rw [g11 l]; rw [r11 l]; exact Nat.le_refl _
  · have := rem_go t.hx t.S.W l; omega
theorem T2.sy (t : T2 two more x y s) : T2 two more x (y.go s).1 (y.go s).2 ∧ (remL (y.go s).1 (y.go s).2 ≤ remL y s - 1) ∧ remL x (y.go s).2 ≤ remL x s := by
  have sb := (go_sb t.hy t.S.W).1
  refine ⟨⟨t.S.go t.hy (.inr ⟨t.cy, t.dy⟩), t.hx.sb sb, t.hy.go t.S.W, t.cx, (go_ch y s).1.trans t.cy, (go_ch y s).2.trans t.dy⟩, ?_, rem_sb t.hx sb⟩
  by_cases l : y.ln = 11
  · rw [g11 l]; rw [r11 l]; exact Nat.le_refl _
  · have := rem_go t.hy t.S.W l; omega
theorem rem0 {K : Int → Prop} {z : Lx} (h : LdI K z s) (e : remL z s = 0) : z.ln = 11 := by
  have := h.ln
  by_cases l : z.ln = 11
  · exact l
  exfalso
  rcases (by omega : z.ln = 0 ∨ z.ln = 1 ∨ z.ln = 2 ∨ z.ln = 3 ∨ z.ln = 4 ∨ z.ln = 5 ∨ z.ln = 6 ∨ z.ln = 7 ∨ z.ln = 8 ∨ z.ln = 9 ∨ z.ln = 10) with k | k | k | k | k | k | k | k | k | k | k
  · rw [r0 k] at e; omega
  · rw [r1 k] at e; omega
  · rw [r2 k] at e; split at e <;> omega
  · rw [r3 k] at e; omega
  · rw [r4 k] at e; omega
  · rw [r5 k] at e; omega
  · rw [r6 k] at e; omega
  · rw [r7 k] at e; omega
  · rw [r8 k] at e; omega
  · rw [r9 k] at e; split at e <;> omega
  · rw [r10 k] at e; omega
/-- What the two tell that have ended. -/
theorem T2.end_ (t : T2 two more x y s) (lx : x.ln = 11) (ly : y.ln = 11) : x.rl = 100 ∧ Fw s 100 3 = 100 ∧ ((x.rm = 200 ∧ y.rl = 100 ∧ y.rm = 200 ∧ x.ra = y.ra ∧ Fw s 200 3 = 100) ∨ (x.rm = 0 ∧ x.ra = 200 ∧ y.rl = 200 ∧ Fw s 200 3 = 200 ∧ ((y.rm = 300 ∧ more = true ∧ two = true ∧ Fw s 300 3 = 200 ∧ y.ra = 0) ∨ (y.rm = 0 ∧ y.ra = bI more)))) := by
  obtain ⟨x1, x2, x3⟩ := res t.hx t.S.W lx
  obtain ⟨y1, y2, y3⟩ := res t.hy t.S.W ly
  rw [t.cx] at x1 x2 x3
  rw [t.cy] at y1 y2 y3
  have nx := t.hx.l1 (by omega)
  have ny := t.hy.l1 (by omega)
  rw [t.cx] at nx
  rw [t.cy] at ny
  have a3 : Fw s 100 3 = 100 := t.S.a3.resolve_left nx
  rw [a3] at x1 x2 x3
  have ua : Alone s 100 ↔ Fw s 100 4 = 1 ∨ Fw s 200 3 ≠ 100 := by
    unfold Alone
    rw [t.S.a2]
    constructor
    · rintro (k | k | k)
      · exact .inl k
      · exact absurd k (by decide)
      · exact .inr k
    · rintro (k | k)
      · exact .inl k
      · exact .inr (.inr k)
  refine ⟨x1, a3, ?_⟩
  have u2 : resM s 100 = if Alone s 100 then 0 else 200 := by unfold resM; rw [t.S.a2]
  have u3 : resA s 100 = if Alone s 100 then 200 else Fw s 200 2 / 2 := by unfold resA; rw [t.S.a2]
  rcases t.S.b3 with b3 | b3 | b3
  · exact absurd b3 ny
  · left
    have na : ¬ Alone s 100 := fun k => by
      rcases ua.1 k with k | k
      · exact (t.S.b1 b3).2 k
      · exact k b3
    rw [b3] at y1 y2 y3
    rw [u2, if_neg na] at x2 y2
    exact ⟨x2, y1, y2, x3.trans y3.symm, b3⟩
  · right
    have a : Alone s 100 := ua.2 (.inr (by omega))
    rw [u2, if_pos a] at x2
    rw [u3, if_pos a] at x3
    rw [b3] at y1 y2 y3
    refine ⟨x2, x3, y1, b3, ?_⟩
    by_cases al : Alone s 200
    · right
      unfold resM at y2
      unfold resA at y3
      rw [if_pos al] at y2 y3
      exact ⟨y2, y3.trans t.S.b2⟩
    · left
      have k4 : ¬ Fw s 200 4 = 1 := fun k => al (.inl k)
      have k0 : ¬ Fw s 200 2 / 2 = 0 := fun k => al (.inr (.inl k))
      have kl : Fw s (Fw s 200 2 / 2) 3 = 200 := by
        by_cases k : Fw s (Fw s 200 2 / 2) 3 = 200
        · exact k
        · exact absurd (.inr (.inr k)) al
      have z4 := (res_mk t.hy ly).2.1
      rw [t.cy, b3] at z4
      have tm : two = true ∧ more = true := by
        rcases t.S.b4 with k | k | k
        · exact absurd k z4
        · exact absurd k k4
        · exact k
      have b2 : Fw s 200 2 / 2 = 300 := by rw [t.S.b2, tm.2]; rfl
      unfold resM at y2
      unfold resA at y3
      rw [if_neg al, b2] at y2 y3
      rw [b2] at kl
      exact ⟨y2, tm.2, tm.1, kl, y3.trans t.S.c2⟩
end
end Go.Proofs.Ytfchbbhopfganaa.Le
