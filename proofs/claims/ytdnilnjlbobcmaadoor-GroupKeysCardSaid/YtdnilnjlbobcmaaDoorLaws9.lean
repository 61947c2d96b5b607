/- Layer 9's laws: GroupFree, GroupMins. -/
import Derived.Test.YtdnilnjlbobcmaaDoorBd
namespace Go.Proofs.YtdnilnjlbobcmaaDoor.Gp
open Go.RowKit Go.Proofs.YtdnilnjlbobcmaaDoor.Ar Go.Proofs.YtdnilnjlbobcmaaDoor.Mx Go.Proofs.YtdnilnjlbobcmaaDoor.Kp
set_option linter.unusedVariables false
set_option linter.unusedSimpArgs false
def FreAt (w : World) (G : List (List It)) (n : Int) (x : Value) (wr : World) : Prop := ∃ i : Nat, i ≤ G.length ∧ x = .int .i64 (i : Nat) ∧ Fr [] w wr
theorem split_len {s : List It} (cells : Int) (h : Srt s) : (splitT s cells).length ≤ s.length + 1 := by
  rw [splitT_fold cells h, List.length_append]
  have h1 := foldG_len (half := halfOf cells) (L := s) (keysT s) ([], [])
  have h2 := keysT_len s
  simp only [List.length_nil] at h1
  simp; omega
theorem split_sum {s : List It} (cells : Int) (h : Srt s) : (splitT s cells).flatten.length = s.length := by rw [split_flat cells h]
/-- A group, and where its slice lies. -/
theorem sg_at {w : World} {a : Option Addr} {n cap i : Nat} {ss : List Sv} {G : List (List It)} {g : List It} (h : Sq fS w (.slice a n cap) ss) (hg : Gs w ss G) (hi : G[i]? = some g) :
    ∃ gb off s, a = some ⟨gb, off, none⟩ ∧ ss[i]? = some s ∧ s.n = g.length ∧ w.cell? ⟨gb, off + i, none⟩ = some (.slice s.a g.length s.c) ∧ Sq fT w (.slice s.a g.length s.c) g := by
  obtain ⟨s, h1, h2, h3⟩ := hg.one hi
  obtain ⟨gb, ob, rfl, c0⟩ := sv_cell h h1
  rw [h2] at c0
  exact ⟨gb, ob, s, rfl, h1, h2, c0, by rw [← h2]; exact h3⟩
theorem wf_keep {l : List It} {vs : List Int} (hwf : ∀ x, x ∈ l → Wf x.k x.v) : ∀ x, x ∈ keepT l vs → (Lit.int .i64 x.k).wf = true := fun x hx =>
  (hwf x (mem_sortT.1 ((keepS_sub vs _).subset hx))).1
set_option maxRecDepth 100000 in
set_option maxHeartbeats 6400000 in
theorem free_true (l : List It) (vs : List Int) (th : Int) (v u : Value) (W : World) (t : Word.Tab W) (hwf : ∀ x, x ∈ l → Wf x.k x.v) (hth : 0 ≤ th ∧ th < 256) (h : Sq fT W v l) (hu : Sq fI W u vs) :
    Calls Tryd.prog 5 #[v, u, .int .u8 th] W fun e w' => e = .returned (.bool true) ∧ Fr [] W w' := by
  obtain ⟨al, cl, rfl, hcl, hml, -⟩ := id h
  obtain ⟨au, cu, rfl, hcu, hmu, -⟩ := id hu
  have HL := Lib.hid (And.intro h hu)
  clear h hu
  go_enter Tryd.func5, Tryd.ntmps5
  go_wp2_with fail
  refine (known9_any _ t).mono ?_
  rintro e w0 ⟨rfl, F0⟩
  have t0 := tab_up t F0
  clear t
  by_cases h40 : 40 < l.length
  · have h40z : (40 : Int) < (l.length : Int) := by omega
    go_wp2_with fail
    go_ret
    exact ⟨rfl, F0⟩
  have h40z : ¬ (40 : Int) < (l.length : Int) := by omega
  by_cases hv : th % 8 + 1 + 1 ≤ (vs.length : Int)
  · go_wp2_with fail
    go_ret
    exact ⟨rfl, F0⟩
  have hv2 : ¬ (vs.length : Int) ≥ th % 8 + 1 + 1 := hv
  have S0 := HL.out.1.up F0
  have U0 := HL.out.2.up F0
  have hll : l.length ≤ 1000 := by omega
  have hvl : vs.length ≤ 1000 := by omega
  have HW := Lib.hid (wf_keep (vs := vs) hwf)
  obtain ⟨n, hn⟩ : ∃ n : Nat, th % 8 + 1 = (n : Int) := ⟨(th % 8 + 1).toNat, by omega⟩
  have HN := Lib.hid (show vs.length ≤ n ∧ 1 ≤ n ∧ n ≤ 14 by omega)
  have hn8 : n ≤ 8 := by omega
  clear hwf
  go_wp2_with fail
  refine (keep_any l vs _ _ w0 hll hvl S0 U0).mono ?_
  rintro e w1 ⟨⟨u1, rfl, r1⟩, F1⟩
  have S1 := Sq.own (f := fT) r1
  have HSR := Lib.hid (keepT_srt l vs)
  have HFR := Lib.hid (split_free l vs n HN.out.1 HN.out.2.1 HN.out.2.2)
  have HPO := Lib.hid (split_pos ((n : Int) + 2) (keepT_srt l vs))
  have HLE := Lib.hid (split_len ((n : Int) + 2) (keepT_srt l vs))
  have hkl := keepT_length l vs
  have hkl40 : (keepT l vs).length ≤ 40 := by omega
  generalize keepT l vs = s at *
  have F01 := F0.trans F1
  clear r1 F0 F1 S0 U0 t0 h40 h40z hv hv2
  obtain ⟨a1, c1, rfl, hc1, hm1, -⟩ := id S1
  have HSP := Lib.hid (split9_any s ((n : Int) + 2) _ w1 hkl40 HSR.out HW.out S1)
  generalize splitT s ((n : Int) + 2) = G at *
  clear S1
  go_wp2_with fail
  refine HSP.out.mono ?_
  rintro e w2 ⟨⟨u2, ss, rfl, hsl, r2, G2⟩, F2⟩
  have S2 := Sq.own (f := fS) r2
  have HG := Lib.hid (And.intro S2 (And.intro G2.gs (F01.trans F2)))
  obtain ⟨a2, c2, rfl, hc2, hm2, -⟩ := id S2
  rw [hsl] at hc2 ⊢
  have HSL := Lib.hid hsl
  rw [hsl] at HG
  have hgl : G.length ≤ 100 := by have := HLE.out; omega
  clear S2 r2 G2 F2 F01 HSP hsl
  go_wp2_with fail
  go_loopw [9] (FreAt w2 G n) (fun x _ => G.length - (intOf x).toNat)
  case atStart => exact ⟨0, by omega, rfl, Fr.refl _ _⟩
  case round =>
    obtain ⟨i, hi, rfl, F⟩ := hrel
    by_cases hlt : i < G.length
    · have HI2 := Lib.hid (show i + 1 ≤ G.length ∧ G.length - (i + 1) < G.length - i by omega)
      have hltz : (i : Int) < (G.length : Int) := by omega
      have hi0 : (0 : Int) ≤ (i : Int) := by omega
      obtain ⟨g, hgi⟩ : ∃ g, G[i]? = some g := ⟨G[i], List.getElem?_eq_getElem _⟩
      obtain ⟨gb, ob, s', rfl, -, -, c0, -⟩ := sg_at (HG.out.1.up F) (HG.out.2.1.up F) hgi
      have hfr : ¬ (g.length : Int) ≥ (n : Int) + 2 := by have := HFR.out g (List.mem_of_getElem? hgi); omega
      have HF := Lib.hid F
      clear F
      go_wp2_with fail
      go_roundw
      case rel => exact ⟨i + 1, HI2.out.1, by simp, HF.out⟩
      case measure => exact meas rfl HI2.out.2
    · obtain rfl : i = G.length := by omega
      have hpo : (G.length : Int) ≥ 1 := by have := HPO.out; omega
      have HF := Lib.hid (HG.out.2.2.trans F)
      clear F
      go_wp2_with fail
      go_ret
      exact ⟨rfl, HF.out⟩
set_option maxRecDepth 100000 in
theorem free_open {H : Type} {enc : TypeId × Value → H} {r r' : Reach} {b0 b1 : Nat} {v u : Value} {d d' : DataW H} {p p' : List MemPlace} (th : Int) (W : World) (t : Word.Tab W) (hv : Value.okWide Tryd.prog W r b0 22 v) (h : DataW.Trod enc Tryd.prog W 0 (fun _ => true) true 22 v d p) (hv' : Value.okWide Tryd.prog W r' b1 32 u) (h' : DataW.Trod enc Tryd.prog W 0 (fun _ => true) true 32 u d' p') (hth : 0 ≤ th ∧ th < 256) :
    Calls Tryd.prog 5 #[v, u, .int .u8 th] W fun e w' => e = .returned (.bool true) ∧ Fr [] W w' := by
  obtain ⟨l, hl, hw⟩ := open_items8 hv h
  obtain ⟨vs, hu, -⟩ := open_ints8 hv' h'
  exact free_true l vs th v u W t (fun x hx => (hw x hx).1) hth hl hu
end Go.Proofs.YtdnilnjlbobcmaaDoor.Gp
