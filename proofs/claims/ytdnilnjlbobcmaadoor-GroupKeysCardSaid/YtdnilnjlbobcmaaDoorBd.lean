/- Texts that several proofs of this seat share, one behind the other: By9, Split9, Made, Mins9, Spot9, Place, Err, View, Chk, Chs, Fill9, Link9, Chunks9, Frame, Same8, Open8, Known9, Maps, First, RefPlace, RChunks, SameCh, RItems, Tab. -/
import Derived.Test.YtdnilnjlbobcmaaDoorBb
import Derived.Test.YtdnilnjlbobcmaaDoorBc
import Derived.Lib.MinMax
import Derived.Test.YtdnilnjlbobcmaaDoorBa
import Derived.Laws.OwnMore
import Derived.WideKeyPair
import Derived.DeepKeys4
import Derived.Stop.IfaceNil
import Derived.Stop.Asserts
import Derived.Lib.IfaceEq
import Derived.LaidEql
import Derived.RowKitTokens
import Derived.WalkSpells
import Derived.ChangeKeysEq
import Derived.Test.YtdnilnjlbobcmaaDoorRows
import Derived.ProofKit
import Derived.OpenShut
import Derived.Below
import Derived.Deep.Slices
import Derived.Deep.Fields
import Derived.Maps.RangeWalk
import Derived.Maps.OwnOps
import Derived.Maps.Views
import Derived.Lib.LaidTab
import Derived.LaidMore
/- Package group's map from keys to rows of items. -/

namespace Go.Proofs.YtdnilnjlbobcmaaDoor.Gp
open Go.RowKit Go.Proofs.YtdnilnjlbobcmaaDoor.Ar Go.Proofs.YtdnilnjlbobcmaaDoor.Mx Go.Proofs.YtdnilnjlbobcmaaDoor.Kp
set_option linter.unusedVariables false
set_option linter.unusedSimpArgs false
/-- Block b is a map from keys to rows of items, each in a block of its own, at base B or above. -/
structure RMap (w : World) (B b n : Nat) (g : Int → List It) (v : Int → Value) : Prop where
  map : GMap w b n (fun κ => if g κ = [] then none else some (v κ))
  nil : ∀ κ, g κ = [] → v κ = .slice none 0 0
  row : ∀ κ, w.ownsRow B 43 3 (v κ) (g κ).length ((g κ).flatMap fT)
  apart : ∀ κ κ', κ ≠ κ' → ∀ i, i ∈ (v κ).ownBlock.toList → i ∉ (v κ').ownBlock.toList
theorem RMap.up {w w' : World} {B b n : Nat} {g : Int → List It} {v : Int → Value} (h : RMap w B b n g v) (f : Fr [] w w') : RMap w' B b n g v :=
  ⟨h.map.up f, h.nil, fun κ => row_keeps (h.row κ) f, h.apart⟩
theorem RMap.made (w : World) (B : Nat) : RMap (w.alloc (.map #[] 0)) B w.heap.size 0 (fun _ => []) (fun _ => .slice none 0 0) :=
  ⟨by simpa using GMap.made w, fun _ _ => rfl, fun _ => ⟨rfl, .inl ⟨rfl, rfl⟩⟩, fun _ _ _ i hi => by simp [Value.ownBlock] at hi⟩
theorem zeroSl (w : World) : (zeroValue 22).run Tryd.prog w = .ok (.slice none 0 0) w := by kernel_rfl
theorem RMap.look {w : World} {B b n : Nat} {g : Int → List It} {v : Int → Value} (h : RMap w B b n g v) {κ : Int} (hk : (Lit.int .i64 κ).wf = true) :
    (Instr.lookup 55 (.map (some b)) (.int .i64 κ) false).run Tryd.prog w = .ok (v κ) w := by
  have hlk := h.map.look Tryd.underlying55 (zeroSl w) hk false
  rw [if_neg (by simp)] at hlk
  rw [hlk]
  by_cases hg : g κ = []
  · rw [if_pos hg, h.nil κ hg]; rfl
  · rw [if_neg hg]; rfl
theorem RMap.lookG {w : World} {B b n : Nat} {g : Int → List It} {v : Int → Value} (hn : ∀ κ, g κ = [] → v κ = .slice none 0 0) (h : GMap w b n (fun κ => if g κ = [] then none else some (v κ))) {κ : Int} (hk : (Lit.int .i64 κ).wf = true) :
    (Instr.lookup 55 (.map (some b)) (.int .i64 κ) false).run Tryd.prog w = .ok (v κ) w := by
  have hlk := h.look Tryd.underlying55 (zeroSl w) hk false
  rw [if_neg (by simp)] at hlk
  rw [hlk]
  by_cases hg : g κ = []
  · rw [if_pos hg, hn κ hg]; rfl
  · rw [if_neg hg]; rfl
theorem RMap.ne {w : World} {B b n : Nat} {g : Int → List It} {v : Int → Value} (h : RMap w B b n g v) (κ : Int) : b ∉ (v κ).ownBlock.toList := by
  obtain ⟨es, clock, hm⟩ := h.map.is_map
  exact row_ne_map (h.row κ) hm
def putG (g : Int → List It) (κ : Int) (r : List It) : Int → List It := fun y => if y = κ then r else g y
def putV (v : Int → Value) (κ : Int) (u : Value) : Int → Value := fun y => if y = κ then u else v y
/-- A key's row grows, and lies in the map again. -/
theorem RMap.put {w w2 : World} {B b n : Nat} {g : Int → List It} {v : Int → Value} (h : RMap w B b n g v) {κ : Int} (hk : (Lit.int .i64 κ).wf = true) (hn : n < maxLen) {u : Value} {r : List It} (hr : r ≠ [])
    (F : Fr (v κ).ownBlock.toList w w2) (hu : w2.ownsRow B 43 3 u r.length (r.flatMap fT)) (hub : ∀ i, i ∈ u.ownBlock.toList → i ∈ (v κ).ownBlock.toList ∨ w.heap.size ≤ i) :
    ∃ w', (Instr.mapUpdate 55 (.map (some b)) (.int .i64 κ) u).run Tryd.prog w2 = .ok () w' ∧ RMap w' B b (n + 1) (putG g κ r) (putV v κ u) ∧ Fr [b] w2 w' := by
  have hG := h.map.kept F (h.ne κ)
  obtain ⟨w', r1, r2, r3⟩ := hG.put Tryd.underlying55 hn hk u
  obtain ⟨es, clock, hm⟩ := hG.is_map
  have hrow : ∀ y, y ≠ κ → w2.ownsRow B 43 3 (v y) (g y).length ((g y).flatMap fT) := fun y hy => row_fr (h.row y) F (fun i hi hi2 => h.apart κ y (Ne.symm hy) i hi2 (by rw [hi]; simp))
  have hlt : ∀ y, ∀ i ∈ (v y).ownBlock.toList, i < w.heap.size := fun y i hi => ((h.row y).lt i (by simpa using hi)).2
  refine ⟨w', r1, ⟨?_, ?_, ?_, ?_⟩, r3⟩
  · have e : (fun y => if y = κ then some u else (if g y = [] then none else some (v y))) = fun y => if putG g κ r y = [] then none else some (putV v κ u y) := by
      funext y
      unfold putG putV
      by_cases hy : y = κ
      · rw [if_pos hy, if_pos hy, if_pos hy, if_neg hr]
      · rw [if_neg hy, if_neg hy, if_neg hy]
    rw [← e]; exact r2
  · intro y hy
    unfold putG at hy
    unfold putV
    by_cases he : y = κ
    · rw [if_pos he] at hy; exact absurd hy hr
    · rw [if_neg he] at hy; rw [if_neg he]; exact h.nil y hy
  · intro y
    unfold putG putV
    by_cases he : y = κ
    · rw [if_pos he, if_pos he]
      exact row_fr hu r3 (fun i hi hi2 => by simp at hi2; subst hi2; exact row_ne_map hu hm (by rw [hi]; simp))
    · rw [if_neg he, if_neg he]
      exact row_fr (hrow y he) r3 (fun i hi hi2 => by simp at hi2; subst hi2; exact row_ne_map (hrow y he) hm (by rw [hi]; simp))
  · intro y y' hne i hi hi'
    unfold putV at hi hi'
    by_cases he : y = κ
    · rw [if_pos he] at hi
      rw [if_neg (fun e => hne (by rw [he, e]))] at hi'
      rcases hub i hi with h1 | h1
      · exact h.apart κ y' (by rw [← he]; exact hne) i h1 hi'
      · have := hlt y' i hi'; omega
    · rw [if_neg he] at hi
      by_cases he' : y' = κ
      · rw [if_pos he'] at hi'
        rcases hub i hi' with h1 | h1
        · exact h.apart y κ he i hi h1
        · have := hlt y i hi; omega
      · rw [if_neg he'] at hi'
        exact h.apart y y' hne i hi hi'
theorem runK_step {s : List It} {i : Nat} {x : It} (hx : s[i]? = some x) : putG (runK (s.take i)) x.k (runK (s.take i) x.k ++ [x]) = runK (s.take (i + 1)) := by
  funext y
  unfold putG runK
  rw [List.take_add_one, hx, Option.toList_some, List.filter_append]
  by_cases hy : y = x.k
  · subst hy; rw [if_pos rfl]; simp
  · rw [if_neg hy, show [x].filter (fun z => z.k == y) = [] from by simp; exact fun e => hy e.symm]; simp
theorem RMap.more {w : World} {B C b n : Nat} {g : Int → List It} {v : Int → Value} (h : RMap w B b n g v) (hC : C ≤ B) : RMap w C b n g v := ⟨h.map, h.nil, fun κ => row_more (h.row κ) hC, h.apart⟩
def ByAt (w : World) (bm : Nat) (s : List It) (x : Value) (wr : World) : Prop := ∃ (i : Nat) (v : Int → Value), i ≤ s.length ∧ x = .int .i64 (i : Nat) ∧ RMap wr w.heap.size bm i (runK (s.take i)) v ∧ Fr [bm] w wr
set_option maxRecDepth 100000 in
set_option maxHeartbeats 6400000 in
theorem byKey_any (l : List It) (v : Value) (w : World) (hl : l.length ≤ 40) (hwf : ∀ x, x ∈ l → (Lit.int .i64 x.k).wf = true) (h : Sq fT w v l) :
    Calls Tryd.prog 27 #[v] w fun e w' => (∃ bm, e = .returned (.map (some bm)) ∧ ∃ n vs, RMap w' w.heap.size bm n (runK (sortT l)) vs) ∧ Fr [] w w' := by
  obtain ⟨av, cv, rfl, hcv, hmv, -⟩ := id h
  have hmm := @run_makeMap Tryd.prog
  have m0 := fun B => RMap.made w B
  have HWF := Lib.hid (fun x (hx : x ∈ sortT l) => hwf x (mem_sortT.1 hx))
  clear hwf
  go_enter Tryd.func27, Tryd.ntmps27
  go_wp2_with fail
  clear hmm
  have F0 := (Fr.refl [] w).alloc (.map #[] 0)
  have h0 := h.up F0
  have F1 := Lib.hid F0
  have M1 := Lib.hid m0
  clear F0 m0 h
  generalize hw1 : (World.alloc w (.map #[] 0)) = w1 at *
  clear hw1
  generalize hB : w.heap.size = bm at *
  have HBM := Lib.hid hB
  clear hB
  refine (sort8_any l _ w1 hl h0).mono ?_
  rintro e w2 ⟨⟨u2, rfl, r2⟩, F2⟩
  have hsl := sortT_length l
  have G2 := Lib.hid (F1.out.trans F2)
  have N2 := Lib.hid ((M1.out w2.heap.size).up F2)
  have HN := Lib.hid (show bm ∉ u2.ownBlock.toList by obtain ⟨es, clock, hm⟩ := N2.out.map.is_map; exact row_ne_map r2 hm)
  generalize hss : sortT l = s at *
  have HSS := Lib.hid hss
  clear hss
  have S2 := Sq.own (f := fT) r2
  obtain ⟨a2, c2, rfl, hc2, hm2, -⟩ := id S2
  clear r2 F2 h0
  have HSL := Lib.hid (show s.length ≤ 40 by omega)
  clear hsl
  go_wp2_with fail
  go_loopw [10] (ByAt w2 bm s) (fun x _ => s.length - (match x with | .int _ z => z.toNat | _ => 0))
  case atStart => exact ⟨0, _, by omega, rfl, N2.out, Fr.refl _ _⟩
  case round =>
    obtain ⟨i, vs, hi, rfl, hR, F⟩ := hrel
    by_cases hlt : i < s.length
    · obtain ⟨x, hx⟩ : ∃ x, s[i]? = some x := ⟨s[i], List.getElem?_eq_getElem hlt⟩
      have hltz : (i : Int) < (s.length : Int) := by omega
      have HST := Lib.hid (runK_step hx)
      have hkw := HWF.out x (List.mem_of_getElem? hx)
      obtain ⟨gs, os, rfl, x0, x1, x2⟩ := it_cells (S2.kept F (fun g hg hb => HN.out (by simp at hb; subst hb; exact hg))) hx
      have F3 := (Fr.refl [] wr).alloc (.cells #[.int .i64 x.k, .int .i64 x.v, .int .i64 x.d] 43)
      have o3 := Ob.new wr 43 #[.int .i64 x.k, .int .i64 x.v, .int .i64 x.d]
      have R3 := hR.up F3
      have HRL := Lib.hid (show (runK (s.take i) x.k).length ≤ 40 by have := runK_len (s.take i) x.k; rw [List.length_take] at this; have := HSL.out; omega)
      have HQ := Lib.hid (show wr.heap.size ∉ (vs x.k).ownBlock.toList ∧ bm ∉ (vs x.k).ownBlock.toList from ⟨fun hi => by have := ((hR.row x.k).lt wr.heap.size (by simpa using hi)).2; omega, hR.ne x.k⟩)
      generalize hvx : vs x.k = vx at *
      have HO := Lib.hid o3
      clear o3
      go_wp2_with fail
      have hrx := R3.row x.k
      rw [hvx] at hrx
      have HVX := Lib.hid hvx
      have HRX := Lib.hid (And.intro hrx R3)
      have HB4 := Lib.hid (Nat.le_trans F.size F3.size)
      generalize hw4 : (wr.alloc (.cells #[.int .i64 x.k, .int .i64 x.v, .int .i64 x.d] 43)) = w4 at *
      clear hw4
      have FW := Lib.hid (F.then F3)
      have HX := Lib.hid hx
      clear hvx hrx R3 hR F F3 x0 x1 x2 hx
      generalize hqq : wr.heap.size = q at *
      clear hqq
      have HSB := Lib.hid (row_base HRX.out.1)
      generalize hS : vx.ownBlock.toList = S at *
      have HS := Lib.hid hS
      clear hS
      refine wp_region_free (by kernel_rfl) ?_
      refine any_envL S w4 #[true, true, true, true, true, true, true, true, true, true, false] 10 1 rfl ?_
      refine envL_pass [true, true, true, true, true, true, true, true, false, false, false] 2 (n := 26) (listed' := #[true, true, true, true, true, true, true, true, false, false, false]) rfl (by kernel_rfl) (by kernel_rfl) (by kernel_rfl) (by kernel_rfl) rfl (by kernel_rfl) (fun _ _ d _ _ h => by cases d <;> exact h) ((Fr.refl _ _).drew) ?_
      apply Exists.intro
      refine ⟨fun wf Ff => ?_, ?_⟩
      · have of := HO.out.kept Ff HQ.out.1
        have j0 := In.cell (of.cell (i := 0) rfl)
        have j1 := In.cell (of.cell (i := 1) rfl)
        have j2 := In.cell (of.cell (i := 2) rfl)
        have lk : ∀ s : In wf, (Instr.lookup 55 (.map (some bm)) (.int .i64 x.k) false).run Tryd.prog s.at_ = .ok vx s.at_ := fun s => by
          have hlk := RMap.lookG (B := bm) HRX.out.2.nil ((HRX.out.2.map.kept Ff HQ.out.2).up s.fr) hkw
          rw [HVX.out] at hlk; exact hlk
        clear of
        simp only [sel]
        repeat (go_big_quiet_step (fail))
        exact wpQuiet_nil rfl
      refine envL_one 8 (by kernel_rfl) rfl rfl (fun w5 F5 => ?_)
      have G := ((Fr.refl [] w4).drew).trans F5
      clear F5
      go_wp2_with fail
      have F6 := (Fr.refl [] w5).alloc (.cells #[.int .i64 x.k, .int .i64 x.v, .int .i64 x.d] 43)
      have o6 := Ob.new w5 43 #[.int .i64 x.k, .int .i64 x.v, .int .i64 x.d]
      replace G := G.trans F6
      clear F6
      refine nx_normal ⟨G.mono (by simp), ?_⟩
      refine envL_one 9 (by kernel_rfl) rfl rfl (fun w7 F7 => ?_)
      have o7 := o6.up F7
      replace G := G.trans F7
      clear F7 o6
      have R7 := HRX.out.2.up G
      have r7 := R7.row x.k
      rw [HVX.out] at r7
      have HR7 := Lib.hid R7
      clear R7
      go_wp2_with (at_builtin; refine wpList_appSqB fT_lays rfl _ _ 22 rfl Tryd.underlying22 itI rfl (B := w2.heap.size) vx (runK (s.take i) x.k) rfl r7 _ [x] rfl (Sq.block o7 rfl rfl (Nat.le_refl _) (by simp [maxLen])) (by have := HRL.out; simp <;> omega) (by decide) (Nat.le_trans HB4.out G.size) ?_; intro a8 c8 w8 r8 F8 B8; generalize hT : runK (s.take i) x.k ++ [x] = T at r8 B8 ⊢)
      rw [HS.out] at F8
      refine nx_normal ⟨(G.mono (by simp)).trans F8, ?_⟩
      refine envL_tail (k := 10) rfl (by kernel_rfl) (fun w9 F9 => ?_)
      have F89 := F8.then F9
      have r9 := row_keeps r8 F9
      obtain ⟨w10, e10, R10, F10⟩ := HR7.out.put hkw (show i < maxLen by have := HSL.out; unfold maxLen; omega) (show T ≠ [] by rw [← hT]; simp) (by rw [HVX.out, HS.out]; exact F89) r9 (fun g hg => by
        rw [HVX.out]
        rcases B8 g hg with h1 | h1
        · exact .inl h1
        · exact .inr (by omega))
      have FX : Fr [bm] w2 w10 := by
        refine Fr.trans ?_ F10
        have h1 := FW.out.then G
        exact ⟨F89.os.trans h1.os, F89.tape.trans h1.tape, F89.output.trans h1.output, Nat.le_trans h1.size F89.size, fun k hk hn => (F89.block k (Nat.lt_of_lt_of_le hk h1.size) (fun hS => by have := HSB.out k hS; omega)).trans (h1.block k hk hn)⟩
      have HG := Lib.hid (And.intro R10 FX)
      rw [← hT] at HG
      have HT := Lib.hid hT
      clear hT R10 F10 F89 F8 F9 r8 r9 r7 o7 B8 G FX
      have hs40 := HSL.out
      go_wp2_with fail
      exact ⟨⟨i + 1, _, by omega, by go_num, by rw [← HST.out]; exact HG.out.1, HG.out.2⟩, by simp; omega⟩
    · have hltz : ¬ (i : Int) < (s.length : Int) := by omega
      rw [List.take_of_length_le (by omega)] at hR
      have HR := Lib.hid hR
      have HF := Lib.hid F
      clear hR F
      go_wp2_with fail
      go_ret
      exact ⟨⟨bm, rfl, i, vs, by rw [HSS.out]; exact HR.out.more (by have := G2.out.size; omega)⟩, G2.out.own HF.out (fun g hg => by simp at hg; have := HBM.out; omega)⟩
end Go.Proofs.YtdnilnjlbobcmaaDoor.Gp
/- Package group's Split. -/

namespace Go.Proofs.YtdnilnjlbobcmaaDoor.Gp
open Go.RowKit Go.Proofs.YtdnilnjlbobcmaaDoor.Ar Go.Proofs.YtdnilnjlbobcmaaDoor.Mx Go.Proofs.YtdnilnjlbobcmaaDoor.Kp
set_option linter.unusedVariables false
set_option linter.unusedSimpArgs false
theorem Gr.lt {w : World} {B : Nat} {ss : List Sv} {gs : List (List It)} (h : Gr w B ss gs) {s : Sv} (hs : s ∈ ss) : ∀ g, g ∈ s.v.ownBlock.toList → g < w.heap.size := by
  obtain ⟨i, hi⟩ := List.getElem?_of_mem hs
  obtain ⟨x, hx⟩ : ∃ x, gs[i]? = some x := ⟨gs[i]'(by rw [← h.1]; exact (List.getElem?_eq_some_iff.1 hi).1), List.getElem?_eq_getElem _⟩
  intro g hg
  exact ((h.2 i s x hi hx).lt g (by simpa using hg)).2
theorem Gr.kept {S : List Nat} {w w' : World} {B : Nat} {ss : List Sv} {gs : List (List It)} (h : Gr w B ss gs) (k : Fr S w w') (hS : ∀ s, s ∈ ss → ∀ g, g ∈ s.v.ownBlock.toList → g ∉ S) : Gr w' B ss gs :=
  ⟨h.1, fun i s g e1 e2 => row_fr (h.2 i s g e1 e2) k (fun b hb => hS s (List.mem_of_getElem? e1) b (by rw [hb]; simp))⟩
/-- Where Split stands: the groups that are full, the one that is begun. -/
def Sp9 (w : World) (half : Int) (s : List It) (ks : List Int) (u7 u8 x : Value) (wr : World) : Prop := ∃ (i : Nat) (ss : List Sv), i ≤ ks.length ∧ x = .int .i64 (i : Nat) ∧
  wr.ownsRow w.heap.size 22 1 u7 ss.length (ss.flatMap fS) ∧ Gr wr w.heap.size ss (foldG half s (ks.take i) ([], [])).1 ∧
  wr.ownsRow w.heap.size 43 3 u8 (foldG half s (ks.take i) ([], [])).2.length ((foldG half s (ks.take i) ([], [])).2.flatMap fT) ∧
  (∀ t, t ∈ ss → ∀ g, g ∈ t.v.ownBlock.toList → g ∉ u8.ownBlock.toList) ∧ Fr [] w wr
theorem cur_len {half : Int} {s : List It} (ks : List Int) (hk : ks.Nodup) : (foldG half s ks ([], [])).2.length ≤ s.length := by
  have h := foldG_cur (half := half) (L := s) ks ([], [])
  refine Nat.le_trans h ?_
  rw [List.length_nil, Nat.zero_add]
  induction ks generalizing s with
  | nil => simp
  | cons κ ks ih =>
    have hn := List.nodup_cons.1 hk
    rw [List.map_cons, List.sum_cons]
    have e1 : ∀ y ∈ ks, runK s y = runK (s.filter fun x => !(x.k == κ)) y := by
      intro y hy
      unfold runK
      rw [List.filter_filter]
      refine List.filter_congr fun x _ => ?_
      by_cases h1 : x.k = y
      · have : y ≠ κ := fun e => hn.1 (e ▸ hy)
        simp [h1, this]
      · simp [h1]
    have e2 : ks.map (fun y => (runK s y).length) = ks.map (fun y => (runK (s.filter fun x => !(x.k == κ)) y).length) := by
      refine List.map_congr_left fun y hy => ?_
      rw [e1 y hy]
    rw [e2]
    have h3 := ih (s := s.filter fun x => !(x.k == κ)) hn.2 (foldG_cur (half := half) ks ([], []))
    have h4 : (runK s κ).length + (s.filter fun x => !(x.k == κ)).length = s.length := by
      unfold runK
      have h5 : ∀ l : List It, (l.filter fun x => x.k == κ).length + (l.filter fun x => !(x.k == κ)).length = l.length := by
        intro l
        induction l with
        | nil => rfl
        | cons a l ih =>
          rw [List.filter_cons, List.filter_cons, List.length_cons, ← ih]
          cases (a.k == κ) <;> simp <;> omega
      exact h5 s
    omega
set_option maxRecDepth 100000 in
set_option maxHeartbeats 6400000 in
theorem split9_any (l : List It) (cells : Int) (v : Value) (w : World) (hl : l.length ≤ 40) (hs : Srt l) (hwf : ∀ x, x ∈ l → (Lit.int .i64 x.k).wf = true) (hSq : Sq fT w v l) :
    Calls Tryd.prog 11 #[v, .int .i64 cells] w fun e w' => (∃ u ss, e = .returned u ∧ ss.length = (splitT l cells).length ∧ w'.ownsRow w.heap.size 22 1 u ss.length (ss.flatMap fS) ∧ Gr w' w.heap.size ss (splitT l cells)) ∧ Fr [] w w' := by
  obtain ⟨av, cv, rfl, hcv, hmv, -⟩ := id hSq
  have HSP := Lib.hid (splitT_fold cells hs)
  have ehf : max 2 (min cells 16) / 2 = halfOf cells := rfl
  have hhf := halfOf_bd cells
  have HKN := Lib.hid ((keysT_rise l).imp (fun {a b} h => (by omega : a ≠ b)) : (keysT l).Nodup)
  have HKL := Lib.hid (keysT_len l)
  have HKM := Lib.hid (fun κ => @runK_ne l κ)
  have HKW := Lib.hid (show ∀ κ, κ ∈ keysT l → (Lit.int .i64 κ).wf = true from fun κ hκ => by obtain ⟨x, hx, rfl⟩ := mem_keysT.1 hκ; exact hwf x hx)
  have H1 := Lib.hid (byKey_any l _ w hl hwf hSq)
  rw [sortT_of hs] at H1
  have H2 := Lib.hid (fun (w1 : World) (F : Fr [] w w1) => keys8_any l _ w1 (by omega) hwf (hSq.up F))
  have HL := Lib.hid hl
  clear hwf hSq hs
  go_enter Tryd.func11, Tryd.ntmps11
  go_wp2_with fail
  have HHF := Lib.hid (show min (max cells 2) 16 / 2 = halfOf cells by unfold halfOf; omega)
  generalize min (max cells 2) 16 / 2 = half at *
  generalize hR : splitT l cells = R at *
  have HRR := Lib.hid hR
  clear hR ehf
  have HHB := Lib.hid hhf
  clear hhf
  generalize max cells 2 = mx at *
  generalize min mx 16 = mn at *
  refine H1.out.mono ?_
  rintro e w1 ⟨⟨bm, rfl, n, vs, R1⟩, F1⟩
  go_wp2_with fail
  refine (H2.out w1 F1).mono ?_
  rintro e w2 ⟨⟨u2, rfl, r2⟩, F2⟩
  have K2 := Sq.own (f := fI) r2
  have M2 := Lib.hid (R1.up F2)
  have F02 := Lib.hid (F1.trans F2)
  generalize hks : keysT l = ks at *
  obtain ⟨ak, ck, rfl, hck, hmk, -⟩ := id K2
  clear r2 F2 R1 F1 H1 H2
  go_wp2_with fail
  go_loopw [7, 8, 20] (Sp9 w2 half l ks) (fun _ _ x _ => ks.length - (match x with | .int _ z => z.toNat | _ => 0))
  case atStart => exact ⟨0, [], by omega, rfl, ⟨rfl, .inl ⟨rfl, rfl⟩⟩, ⟨rfl, fun i s g e1 e2 => by simp at e1⟩, ⟨rfl, .inl ⟨rfl, rfl⟩⟩, by simp, Fr.refl _ _⟩
  case round =>
    obtain ⟨i, ss, hi, rfl, hr, hG, hc, hap, F⟩ := hrel
    by_cases hlt : i < ks.length
    · obtain ⟨κ, hκ⟩ : ∃ κ, ks[i]? = some κ := ⟨ks[i], List.getElem?_eq_getElem hlt⟩
      have hltz : (i : Int) < (ks.length : Int) := by omega
      have HI1 := Lib.hid (show i + 1 ≤ ks.length from hlt)
      have HI2 := Lib.hid (show ks.length - (i + 1) < ks.length - i by omega)
      have hkm := List.mem_of_getElem? hκ
      have hkw := HKW.out κ hkm
      have HST := Lib.hid (foldG_step (half := half) (L := l) hκ ([], []))
      have HCL := Lib.hid (show (foldG half l (ks.take i) ([], [])).2.length ≤ 40 from by have := cur_len (half := half) (s := l) (ks.take i) (HKN.out.sublist (List.take_sublist _ _)); have := HL.out; omega)
      have HOL := Lib.hid (show (foldG half l (ks.take i) ([], [])).1.length ≤ 40 from by have := foldG_len (half := half) (L := l) (ks.take i) ([], []); rw [List.length_take] at this; have h3 := HL.out; have h4 := HKL.out; simp only [List.length_nil] at this; omega)
      generalize hoc : foldG half l (ks.take i) ([], []) = oc at *
      obtain ⟨out, cur⟩ := oc
      have HOC := Lib.hid hoc
      clear hoc
      simp only at hr hG hc hap HCL HOL
      obtain ⟨gk, ok, rfl, k0⟩ := int_cell (K2.up F) hκ
      have HRN := Lib.hid (HKM.out κ hkm)
      have HRL := Lib.hid (show (runK l κ).length ≤ 40 from by have := runK_len l κ; have := HL.out; omega)
      have HM2 := fun (W : World) (F : Fr [] w2 W) => And.intro ((M2.out.up F).look hkw) (Sq.own (f := fT) ((M2.out.up F).row κ))
      generalize hrr : runK l κ = run at *
      generalize vs κ = vr at *
      obtain ⟨ar, cr, rfl, hcr, hmr, -⟩ := id (HM2 wr F).2
      obtain ⟨ac, cc, rfl, hcc, hmc, -⟩ := id (Sq.own (f := fT) hc)
      have lk := (HM2 wr F).1
      have HLK := Lib.hid HM2
      have HKK := Lib.hid (And.intro hκ (And.intro hkm hkw))
      clear hκ hkm hkw HM2
      by_cases hnew : cur ≠ [] ∧ half < (cur.length : Int) + (run.length : Int)
      · have g1 : 0 < cur.length := List.length_pos_iff.2 hnew.1
        have hcl := HCL.out
        have hrl := HRL.out
        have g2 : half < (cur.length : Int) + (run.length : Int) := hnew.2
        have HN := Lib.hid hnew
        have F9 := (Fr.refl [] wr).alloc (.cells #[.slice ac cur.length cc] 22)
        have B9 := Go.heap_alloc_new wr (.cells #[.slice ac cur.length cc] 22)
        have r7 := row_keeps hr F9
        have HFW := Lib.hid (F.trans F9)
        have HC := Lib.hid (And.intro (row_keeps hc F9) (And.intro (hG.up F9) hap))
        have HM := Lib.hid (show w2.heap.size ≤ (wr.alloc (.cells #[.slice ac cur.length cc] 22)).heap.size from (F.trans F9).size)
        have HSL := Lib.hid hG.1
        clear hnew F F9 hr hc hG hap
        go_wp2_with (first
          | (at_builtin; refine wpList_appSq fS_lays rfl _ _ 29 rfl Tryd.underlying29 svI rfl (B := w2.heap.size) u7 ss rfl r7 _ [(⟨ac, cur.length, cc⟩ : Sv)] rfl (Sq.block B9 rfl rfl (Nat.le_refl _) (by simp [maxLen])) (by have := HSL.out; have := HOL.out; simp; omega) (by decide) HM.out ?_; intro a9 c9 w9 r9 f9; generalize hT : ss ++ [(⟨ac, cur.length, cc⟩ : Sv)] = T at r9 ⊢
             have HF9 := Lib.hid (And.intro (HFW.out.own f9 (row_base r7)) (And.intro f9 r7))
             have HT := Lib.hid hT
             have lk9 := (HLK.out w9 HF9.out.1).1
             clear f9 r7 hT lk B9)
          | (at_builtin; go_loud (refine wpList_appSqB fT_lays rfl _ _ 22 rfl Tryd.underlying22 itI rfl (B := w2.heap.size) (.slice none 0 0) [] rfl ⟨rfl, .inl ⟨rfl, rfl⟩⟩ _ run rfl (HLK.out w9 HF9.out.1).2 (by simp <;> omega) (by decide) HF9.out.1.size ?_); intro a10 c10 w10 r10 f10 b10; rw [List.nil_append] at r10 b10 ⊢; have HF10 := Lib.hid (HF9.out.1.trans f10)))
        have hne : ∀ (n : Nat) (v : Value) (xs : List Value), (wr.alloc (.cells #[.slice ac cur.length cc] 22)).ownsRow w2.heap.size 43 3 v n xs → ∀ g, g ∈ v.ownBlock.toList → g ∉ u7.ownBlock.toList := fun n v xs h => row_row_ne HF9.out.2.2 h (by decide)
        have hGn := (Gr.fr HC.out.2.1 HF9.out.2.2 HF9.out.2.1).snoc (s := ⟨ac, cur.length, cc⟩) (g := cur) (row_fr HC.out.1 HF9.out.2.1 (fun g hg hg2 => hne _ _ _ HC.out.1 g (by have hg' : (Value.slice ac cur.length cc).ownBlock = some g := hg; rw [hg']; simp) hg2))
        have hapn : ∀ t, t ∈ T → ∀ g, g ∈ t.v.ownBlock.toList → g ∉ (Value.slice a10 run.length c10).ownBlock.toList := by
          intro t ht g hg hg2
          rw [← HT.out] at ht
          have h1 := Gr.lt hGn ht g hg
          rcases b10 g hg2 with h2 | h2
          · simp [Value.ownBlock] at h2
          · omega
        rw [HT.out] at hGn
        have hGn2 := hGn.up f10
        have hr10 := row_keeps r9 f10
        have HZ := Lib.hid (And.intro hGn2 (And.intro hapn (And.intro hr10 r10)))
        have HTL := Lib.hid (show T.length = ss.length + 1 by rw [← HT.out]; simp)
        have HNX := Lib.hid (show foldG half l (ks.take (i + 1)) ([], []) = (out ++ [cur], run) by rw [HST.out]; exact stepG_new HN.out.1 HN.out.2)
        clear hGn2 hapn hr10 r10 r9 hGn f10 b10 hne
        have hik : i < 1000 := by have := HKL.out; have := HL.out; omega
        have hwi : wrap64 ((i : Int) + 1) = (i : Int) + 1 := w64 (by omega) (by omega)
        go_wp2_with fail
        go_roundw
        case rel => exact ⟨i + 1, T, HI1.out, by simp [hwi], HZ.out.2.2.1, by rw [HNX.out]; exact HZ.out.1, by rw [HNX.out]; exact HZ.out.2.2.2, HZ.out.2.1, HF10.out⟩
        case measure => simpa [hwi] using HI2.out
      · have hcl := HCL.out
        have hrl := HRL.out
        have HNX := Lib.hid (show foldG half l (ks.take (i + 1)) ([], []) = (out, cur ++ run) by rw [HST.out]; exact stepG_old hnew)
        have HFW := Lib.hid F
        have HC := Lib.hid (And.intro hr (And.intro hG hap))
        have HCC := Lib.hid hc
        have hwi : wrap64 ((i : Int) + 1) = (i : Int) + 1 := w64 (by have := HKL.out; have := HL.out; omega) (by have := HKL.out; have := HL.out; omega)
        have HSR := Lib.hid (HLK.out wr F).2
        have g0 : (cur.length = 0 ∧ ¬ 0 < cur.length) ∨ (0 < cur.length ∧ ¬ half < (cur.length : Int) + (run.length : Int)) := by
          by_cases h0 : cur = []
          · left; subst h0; simp
          · right
            exact ⟨List.length_pos_iff.2 h0, fun h => hnew ⟨h0, h⟩⟩
        clear hnew hr hG hap F hc
        rcases g0 with ⟨g1, g2⟩ | ⟨g1, g2⟩
        all_goals
          go_wp2_with (at_builtin; go_loud (refine wpList_appSqB fT_lays rfl _ _ 22 rfl Tryd.underlying22 itI rfl (B := w2.heap.size) (.slice ac cur.length cc) cur rfl HCC.out _ run rfl HSR.out (by omega) (by decide) HFW.out.size ?_); intro a10 c10 w10 r10 f10 b10; generalize hT : cur ++ run = T at r10 b10 ⊢)
          have hr10 := row_fr HC.out.1 f10 (fun g hg hg2 => row_row_ne HC.out.1 HCC.out (by decide) g hg2 (by rw [hg]; simp))
          have hG10 := Gr.kept HC.out.2.1 f10 (fun t ht g hg hg2 => HC.out.2.2 t ht g hg hg2)
          have hap10 : ∀ t, t ∈ ss → ∀ g, g ∈ t.v.ownBlock.toList → g ∉ (Value.slice a10 T.length c10).ownBlock.toList := by
            intro t ht g hg hg2
            rcases b10 g hg2 with h2 | h2
            · exact HC.out.2.2 t ht g hg h2
            · have := Gr.lt HC.out.2.1 ht g hg; omega
          have HZ := Lib.hid (And.intro hG10 (And.intro hap10 (And.intro hr10 (And.intro r10 (HFW.out.own f10 (row_base HCC.out))))))
          have HT := Lib.hid hT
          clear hG10 hap10 hr10 r10 f10 b10 hT
          go_wp2_with fail
          go_roundw
          case rel => exact ⟨i + 1, ss, HI1.out, by simp [hwi], HZ.out.2.2.1, by rw [HNX.out]; exact HZ.out.1, by rw [HNX.out, HT.out]; exact HZ.out.2.2.2.1, HZ.out.2.1, HZ.out.2.2.2.2⟩
          case measure => simpa [hwi] using HI2.out
    · have hltz : ¬ (i : Int) < (ks.length : Int) := by omega
      rw [List.take_of_length_le (by omega)] at hG hc
      obtain ⟨ac, cc, rfl, hcc, hmc, -⟩ := id (Sq.own (f := fT) hc)
      have HSP2 := HSP.out
      rw [← HHF.out] at HSP2
      have HOL := Lib.hid (show (foldG half l ks ([], [])).1.length ≤ 40 from by have := foldG_len (half := half) (L := l) ks ([], []); have h3 := HL.out; have h4 := HKL.out; simp only [List.length_nil] at this; omega)
      generalize foldG half l ks ([], []) = oc at *
      obtain ⟨out, cur⟩ := oc
      simp only at hG hc HSP2 HOL
      have HSP3 := Lib.hid HSP2
      have F9 := (Fr.refl [] wr).alloc (.cells #[.slice ac cur.length cc] 22)
      have B9 := Go.heap_alloc_new wr (.cells #[.slice ac cur.length cc] 22)
      have r7 := row_keeps hr F9
      have HFW := Lib.hid (F.trans F9)
      have HC := Lib.hid (And.intro (row_keeps hc F9) (hG.up F9))
      have HM := Lib.hid (show w2.heap.size ≤ (wr.alloc (.cells #[.slice ac cur.length cc] 22)).heap.size from (F.trans F9).size)
      have HSL := Lib.hid hG.1
      clear F F9 hr hc hG hap HSP2 HSP
      go_wp2_with (at_builtin; refine wpList_appSq fS_lays rfl _ _ 29 rfl Tryd.underlying29 svI rfl (B := w2.heap.size) u7 ss rfl r7 _ [(⟨ac, cur.length, cc⟩ : Sv)] rfl (Sq.block B9 rfl rfl (Nat.le_refl _) (by simp [maxLen])) (by have := HSL.out; have := HOL.out; simp; omega) (by decide) HM.out ?_; intro a9 c9 w9 r9 f9; generalize hT : ss ++ [(⟨ac, cur.length, cc⟩ : Sv)] = T at r9 ⊢
                   have HF9 := Lib.hid (And.intro (HFW.out.own f9 (row_base r7)) (And.intro f9 r7))
                   have HT := Lib.hid hT
                   clear f9 r7 hT B9)
      have hGn := (Gr.fr HC.out.2 HF9.out.2.2 HF9.out.2.1).snoc (s := ⟨ac, cur.length, cc⟩) (g := cur) (row_fr HC.out.1 HF9.out.2.1 (fun g hg hg2 => row_row_ne HF9.out.2.2 HC.out.1 (by decide) g (by have hg' : (Value.slice ac cur.length cc).ownBlock = some g := hg; rw [hg']; simp) hg2))
      rw [HT.out, ← HSP3.out] at hGn
      have HZ := Lib.hid (And.intro hGn r9)
      clear hGn r9
      go_ret
      exact ⟨⟨_, rfl, T, by rw [HRR.out]; exact HZ.out.1.1, row_more HZ.out.2 F02.out.size, by rw [HRR.out]; exact ⟨HZ.out.1.1, fun i s g e1 e2 => row_more (HZ.out.1.2 i s g e1 e2) F02.out.size⟩⟩, F02.out.trans HF9.out.1⟩
end Go.Proofs.YtdnilnjlbobcmaaDoor.Gp
/- Rows that are made whole and filled place by place. -/

namespace Go.Proofs.YtdnilnjlbobcmaaDoor.Mx
open Go.RowKit Go.Proofs.YtdnilnjlbobcmaaDoor.Ar
set_option linter.unusedVariables false
set_option linter.unusedSimpArgs false
section
variable {α : Type} {f : α → List Value} {sz : Nat}
/-- The first ones as they shall be, the others as they were made. -/
def fillL (ms : List α) (z : α) (i : Nat) : List α := ms.take i ++ List.replicate (ms.length - i) z
theorem fill_zero (ms : List α) (z : α) : fillL ms z 0 = List.replicate ms.length z := by simp [fillL]
theorem fill_full (ms : List α) (z : α) {i : Nat} (h : ms.length ≤ i) : fillL ms z i = ms := by simp [fillL, List.take_of_length_le h, Nat.sub_eq_zero_of_le h]
theorem fill_len (ms : List α) (z : α) {i : Nat} (h : i ≤ ms.length) : (fillL ms z i).length = ms.length := by simp [fillL]; omega
theorem fill_next (ms : List α) (z : α) {i : Nat} (h : i < ms.length) : fillL ms z i = ms.take i ++ z :: List.replicate (ms.length - (i + 1)) z := by
  unfold fillL
  rw [show ms.length - i = (ms.length - (i + 1)) + 1 by omega, List.replicate_succ]
theorem fill_set {ms : List α} (z : α) {i : Nat} {v : α} (h : ms[i]? = some v) : (fillL ms z i).set i v = fillL ms z (i + 1) := by
  have hl := (List.getElem?_eq_some_iff.1 h).1
  rw [fill_next ms z hl]
  unfold fillL
  rw [List.take_add_one, h, Option.toList_some, List.append_assoc, List.set_append_right _ _ (by rw [List.length_take]; omega), show i - (ms.take i).length = 0 by rw [List.length_take]; omega]
  rfl
theorem fill_at {ms : List α} (z : α) {i : Nat} (h : i < ms.length) : (fillL ms z i)[i]? = some z := by
  rw [fill_next ms z h, List.getElem?_append_right (by rw [List.length_take]; omega), show i - (ms.take i).length = 0 by rw [List.length_take]; omega]
  rfl
theorem fill_keep {ms : List α} {z : α} {i : Nat} (h : ms[i]? = some z) : fillL ms z (i + 1) = fillL ms z i := by
  have hl := (List.getElem?_eq_some_iff.1 h).1
  rw [fill_next ms z hl]
  unfold fillL
  rw [List.take_add_one, h, Option.toList_some, List.append_assoc]; rfl
theorem fill_done {ms : List α} (z : α) {i j : Nat} (h : j < i) (hj : j < ms.length) : (fillL ms z i)[j]? = ms[j]? := by
  unfold fillL
  rw [List.getElem?_append_left (by simp; omega), List.getElem?_take_of_lt h]
theorem flat_replicate (z : α) (n : Nat) : (List.replicate n z).flatMap f = (List.replicate n (f z)).flatten := by
  rw [List.flatMap_def, List.map_replicate]
theorem made_flat (hL : Lays f sz) (z : α) (zs : Array Value) (hz : zs.toList = f z) (n : Nat) : (madeCells zs (n * sz)).toList = (List.replicate n z).flatMap f := by
  have hzs : zs.size = sz := by rw [← Array.length_toList, hz, hL.len]
  apply List.ext_getElem?
  intro k
  by_cases hk : k < n * sz
  · have h1 : k / sz < n := (Nat.div_lt_iff_lt_mul hL.pos).2 hk
    have h2 : k % sz < sz := Nat.mod_lt _ hL.pos
    have h3 : k = (k / sz) * sz + k % sz := by rw [Nat.mul_comm]; exact (Nat.div_add_mod k sz).symm
    have e : ((List.replicate n z).flatMap f)[k]? = (f z)[k % sz]? := by
      have := hL.at (xs := List.replicate n z) (i := k / sz) (j := k % sz) (x := z) (by rw [List.getElem?_replicate]; simp [h1]) h2
      rw [← h3] at this; exact this
    rw [e, ← hz]
    simp only [madeCells, Array.toList_map, Array.toList_range, List.getElem?_map, List.getElem?_range hk, Option.map_some, hzs]
    rw [Array.getElem?_toList, getElem!_pos zs (k % sz) (by rw [hzs]; exact h2)]
    rw [Array.getElem?_eq_getElem]
  · rw [List.getElem?_eq_none (by simp [madeCells]; omega), List.getElem?_eq_none (by rw [hL.flat]; simp; omega)]
/-- 'make([]T, n)'. -/
theorem wpList_mk {P : Program} {w : World} {ops : Array Oper} {rest : List Oper} {o : Oper} {a : Act} {Q : Exit → Act → World → Prop} (hL : Lays f sz) (hg : o.guard = none) (l c : Operand) (t : TypeId) (hop : o.op = Op.makeSlice t l c)
    {E : TypeId} {z : Value} {bytes : Nat} (ht : P.underlying t = some (.slice E)) (hi : (P.info? E).map (fun i => (i.zero, i.size, i.bytes)) = some (some z, sz, bytes)) (z0 : α) (hz : z.cells.toList = f z0)
    (n : Nat) (hl : a.eval l = .int .i64 (n : Int)) (hc : a.eval c = .int .i64 (n : Int)) (hn : n ≤ 1000000) (hb : bytes ≤ 1000)
    (hK : ∀ w', Ob w' w.heap.size E ((List.replicate n z0).flatMap f).toArray → Fr [] w w' → wpList P ops Q rest (a.put o.dst (.slice (some ⟨w.heap.size, 0, none⟩) n n)) w') : wpList P ops Q (o :: rest) a w := by
  obtain ⟨i, hi0, hz0, hs0, hb0⟩ := info_parts hi
  refine wpList_make_full w hg l c t hop 0 E i z sz ht hi0 hz0 hs0 .i64 .i64 _ _ n hl hc rfl rfl (by rw [hb0]; have := Nat.mul_le_mul hb hn; omega) (by unfold maxLen; omega) (Nat.zero_le _) fun w' hown hgr => ?_
  refine hK w' ?_ (Fr.grown hgr)
  obtain ⟨-, hown⟩ := hown
  rcases hown with ⟨e1, -⟩ | ⟨g, cap, cur, e1, -, hh, hc1, hc2, hs, ht2⟩
  · simp at e1
  simp only [Value.slice.injEq, Option.some.injEq, Addr.mk.injEq] at e1
  obtain ⟨⟨rfl, -⟩, -, rfl⟩ := e1
  rw [made_flat hL z0 _ hz, List.take_of_length_le (by simp; omega)] at ht2
  have : cur = ((List.replicate n z0).flatMap f).toArray := by rw [← ht2]
  rw [this] at hh
  exact hh
theorem flat_set (hL : Lays f sz) : ∀ {xs : List α} {i j : Nat} {x x' : α} {u : Value}, xs[i]? = some x → j < sz → f x' = (f x).set j u → (xs.flatMap f).set (i * sz + j) u = (xs.set i x').flatMap f
  | [], i, j, x, x', u, h, _, _ => by simp at h
  | y :: xs, 0, j, x, x', u, h, hj, hf => by
    obtain rfl : y = x := by simpa using h
    rw [List.flatMap_cons, List.set_cons_zero, List.flatMap_cons, Nat.zero_mul, Nat.zero_add, List.set_append_left _ _ (by rw [hL.len]; exact hj), hf]
  | y :: xs, i + 1, j, x, x', u, h, hj, hf => by
    rw [List.flatMap_cons, List.set_cons_succ, List.flatMap_cons, List.set_append_right _ _ (by rw [hL.len, Nat.succ_mul]; omega), hL.len, Nat.succ_mul, show i * sz + sz + j - sz = i * sz + j by omega, flat_set hL (by simpa using h) hj hf]
/-- A cell of one of them. -/
theorem Ob.seg (hL : Lays f sz) {w : World} {b : Nat} {T : TypeId} {xs : List α} (o : Ob w b T (xs.flatMap f).toArray) {i j : Nat} {x x' : α} {u : Value} (hi : xs[i]? = some x) (hj : j < sz) (hf : f x' = (f x).set j u) :
    Ob (w.setCell ⟨b, i * sz + j, none⟩ u) b T ((xs.set i x').flatMap f).toArray := by
  have := o.set (i := i * sz + j) u
  have e : (xs.flatMap f).toArray.setIfInBounds (i * sz + j) u = ((xs.set i x').flatMap f).toArray := by
    rw [← flat_set hL hi hj hf]; simp
  rw [e] at this; exact this
theorem Ob.segCell (hL : Lays f sz) {w : World} {b : Nat} {T : TypeId} {xs : List α} (o : Ob w b T (xs.flatMap f).toArray) {i j : Nat} {x : α} {u : Value} (hi : xs[i]? = some x) (hj : (f x)[j]? = some u) : w.cell? ⟨b, i * sz + j, none⟩ = some u := by
  refine o.cell ?_
  have hj' : j < sz := by have := (List.getElem?_eq_some_iff.1 hj).1; rw [hL.len] at this; exact this
  rw [List.getElem?_toArray, hL.at hi hj']
  exact hj
theorem Ob.sq (hL : Lays f sz) {w : World} {b : Nat} {T : TypeId} {xs : List α} (o : Ob w b T (xs.flatMap f).toArray) (hm : xs.length ≤ 1000000) : Sq f w (.slice (some ⟨b, 0, none⟩) xs.length xs.length) xs :=
  Sq.block o (by simp) rfl (Nat.le_refl _) (by unfold maxLen; omega)
end
end Go.Proofs.YtdnilnjlbobcmaaDoor.Mx
/- Package group's Mins and allFit. -/

namespace Go.Proofs.YtdnilnjlbobcmaaDoor.Gp
open Go.RowKit Go.Proofs.YtdnilnjlbobcmaaDoor.Ar Go.Proofs.YtdnilnjlbobcmaaDoor.Mx
set_option linter.unusedVariables false
set_option linter.unusedSimpArgs false
def Mi9 (w : World) (b : Nat) (ms : List Int) (x : Value) (wr : World) : Prop := ∃ i : Nat, i ≤ ms.length ∧ x = .int .i64 (i : Nat) ∧ Ob wr b 3 ((fillL ms 0 i).flatMap fI).toArray ∧ Fr [] w wr
set_option maxRecDepth 100000 in
set_option maxHeartbeats 6400000 in
theorem mins9_any (least : Int) (gs : List (List It)) (ss : List Sv) (u : Value) (w : World) (hl : gs.length ≤ 1000) (h : Sq fS w u ss) (hg : Gs w ss gs) :
    Calls Tryd.prog 14 #[.int .i64 least, u] w fun e w' => (e = .returned (.slice (some ⟨w.heap.size, 0, none⟩) gs.length gs.length) ∧ Ob w' w.heap.size 3 ((minsT least gs).flatMap fI).toArray) ∧ Fr [] w w' := by
  obtain ⟨av, cv, rfl, hcv, hmv, -⟩ := id h
  have hml := minsT_length least gs
  have hsl := hg.1
  rw [hsl] at h hcv ⊢
  have HAT := Lib.hid (fun i g => @minsT_at least gs i g)
  generalize hms : minsT least gs = ms at *
  have HMS := Lib.hid hms
  rw [← hml] at h hcv ⊢
  have hmk : ms.length ≤ 1000 := by omega
  have HML := Lib.hid hml
  clear hms hml hsl
  have hlz : (0 : Int) ≤ (ms.length : Int) := by omega
  go_enter Tryd.func14, Tryd.ntmps14
  go_wp2_with (at_make; refine wpList_mk fI_lays rfl _ _ 32 rfl Tryd.underlying32 intI (0 : Int) rfl ms.length rfl rfl (by omega) (by decide) ?_; intro w1 o1 F1)
  rw [← fill_zero ms (0 : Int)] at o1
  go_loopw [13] (Mi9 w w.heap.size ms) (fun x _ => ms.length - (intOf x).toNat)
  case atStart => exact ⟨0, by omega, rfl, o1, F1⟩
  case round =>
    clear o1 F1
    obtain ⟨i, hi, rfl, o, F⟩ := hrel
    by_cases hlt : i < ms.length
    · have HI2 := Lib.hid (show i + 1 ≤ ms.length ∧ ms.length - (i + 1) < ms.length - i by omega)
      have hltz : (i : Int) < (ms.length : Int) := by omega
      obtain ⟨g, hgi⟩ : ∃ g, gs[i]? = some g := ⟨gs[i]'(by have := HML.out; omega), List.getElem?_eq_getElem _⟩
      have hm := HAT.out i g hgi
      obtain ⟨s, hs1, hs2, hs3⟩ := (hg.up F).one hgi
      obtain ⟨gb, ob, rfl, c0⟩ := sv_cell (h.up F) hs1
      rw [hs2] at c0
      have hs3' : Sq fT wr (.slice s.a g.length s.c) g := by rw [← hs2]; exact hs3
      have hz : (fillL ms (0 : Int) i)[i]? = some 0 := fill_at 0 hlt
      have q0 : wr.cell? ⟨w.heap.size, i, none⟩ = some (.int .i64 0) := by simpa using o.segCell fI_lays hz (j := 0) rfl
      have z := o.frozen
      have hwi : wrap64 ((i : Int) + 1) = (i : Int) + 1 := w64 (by omega) (by omega)
      have HO := Lib.hid (show ∀ v, ms[i]? = some v → Ob (wr.setCell ⟨w.heap.size, i, none⟩ (.int .i64 v)) w.heap.size 3 ((fillL ms (0 : Int) (i + 1)).flatMap fI).toArray from fun v hv => by
        have := o.seg fI_lays (i := i) (j := 0) (x' := v) (u := .int .i64 v) hz (by decide) rfl
        rw [fill_set 0 hv] at this
        simpa using this)
      have HO2 := Lib.hid o
      have HF := Lib.hid F
      clear o F hz
      by_cases h0 : i = 0
      · subst h0
        rw [if_pos rfl] at hm
        simp only [Nat.add_zero] at c0
        have HM := Lib.hid hm
        clear hm hs3 hs3' hwi
        go_wp2_with fail
        go_roundw
        case rel => exact ⟨0 + 1, HI2.out.1, by go_num, HO.out _ HM.out, HF.out.own (Fr.setCell (b := w.heap.size) _ (List.mem_singleton.2 rfl)) (by simp)⟩
        case measure => simp [intOf]; omega
      · have g1 : (((i : Nat) : Int) == 0) = false := by simp; omega
        rw [if_neg h0] at hm
        cases g with
        | nil =>
          have hm : ms[i]? = some ((0 : Int)) := hm
          have HM := Lib.hid (fill_keep hm)
          clear hm hs3 hs3'
          go_wp2_with fail
          go_roundw
          case rel => exact ⟨i + 1, HI2.out.1, by simp [hwi], by rw [HM.out]; exact HO2.out, HF.out⟩
          case measure => simpa [intOf, hwi] using HI2.out.2
        | cons y r =>
          obtain ⟨gz, oz, ez, z0, -, -⟩ := it_cells hs3' (i := 0) (x := y) rfl
          rw [ez] at c0
          simp only [Nat.zero_mul, Nat.add_zero] at z0
          have hm : ms[i]? = some (y.k) := hm
          have HM := Lib.hid hm
          have hpos : 0 < (y :: r).length := by simp
          generalize (y :: r).length = ln at *
          clear hm hs3 hs3'
          go_wp2_with fail
          go_roundw
          case rel => exact ⟨i + 1, HI2.out.1, by simp [hwi], HO.out _ HM.out, HF.out.own (Fr.setCell (b := w.heap.size) _ (List.mem_singleton.2 rfl)) (by simp)⟩
          case measure => simpa [intOf, hwi] using HI2.out.2
    · obtain rfl : i = ms.length := by omega
      rw [fill_full ms 0 (Nat.le_refl _)] at o
      have HO := Lib.hid o
      have HF := Lib.hid F
      clear o F
      go_wp2_with fail
      go_ret
      exact ⟨⟨rfl, HO.out⟩, HF.out⟩
theorem allF_step (c : Int) {gs : List (List It)} {i : Nat} {g : List It} (h : gs[i]? = some g) : ((gs.drop i).all fun g => decide ((g.length : Int) ≤ c)) = (decide ((g.length : Int) ≤ c) && ((gs.drop (i + 1)).all fun g => decide ((g.length : Int) ≤ c))) := by
  obtain ⟨h1, rfl⟩ := List.getElem?_eq_some_iff.1 h
  rw [List.drop_eq_getElem_cons h1, List.all_cons]
def Af9 (w : World) (c : Int) (gs : List (List It)) (x : Value) (wr : World) : Prop := ∃ i : Nat, i ≤ gs.length ∧ x = .int .i64 (i : Nat) ∧ ((gs.all fun g => decide ((g.length : Int) ≤ c)) = (gs.drop i).all fun g => decide ((g.length : Int) ≤ c)) ∧ Fr [] w wr
set_option maxRecDepth 100000 in
set_option maxHeartbeats 6400000 in
theorem allFit_any (c : Int) (gs : List (List It)) (ss : List Sv) (u : Value) (w : World) (hl : gs.length ≤ 1000) (h : Sq fS w u ss) (hg : Gs w ss gs) :
    Calls Tryd.prog 30 #[u, .int .i64 c] w fun e w' => e = .returned (.bool (gs.all fun g => decide ((g.length : Int) ≤ c))) ∧ Fr [] w w' := by
  obtain ⟨av, cv, rfl, hcv, hmv, -⟩ := id h
  have hsl := hg.1
  rw [hsl] at h hcv ⊢
  go_enter Tryd.func30, Tryd.ntmps30
  go_wp2_with fail
  go_loopw [9] (Af9 w c gs) (fun x _ => gs.length - (intOf x).toNat)
  case atStart => exact ⟨0, by omega, rfl, by simp, Fr.refl _ _⟩
  case round =>
    obtain ⟨i, hi, rfl, ha, F⟩ := hrel
    by_cases hlt : i < gs.length
    · have HI2 := Lib.hid (show i + 1 ≤ gs.length ∧ gs.length - (i + 1) < gs.length - i by omega)
      have hltz : (i : Int) < (gs.length : Int) := by omega
      obtain ⟨g, hgi⟩ : ∃ g, gs[i]? = some g := ⟨gs[i], List.getElem?_eq_getElem _⟩
      rw [allF_step c hgi] at ha
      obtain ⟨s, hs1, hs2, -⟩ := (hg.up F).one hgi
      obtain ⟨gb, ob, rfl, c0⟩ := sv_cell (h.up F) hs1
      rw [hs2] at c0
      have hwi : wrap64 ((i : Int) + 1) = (i : Int) + 1 := w64 (by omega) (by omega)
      have HF := Lib.hid F
      clear F
      by_cases hc : c < (g.length : Int)
      · rw [show decide ((g.length : Int) ≤ c) = false by simpa using hc, Bool.false_and] at ha
        have HA := Lib.hid ha
        clear ha
        go_wp2_with fail
        go_ret
        exact ⟨by rw [HA.out]; rfl, HF.out⟩
      · rw [show decide ((g.length : Int) ≤ c) = true by simpa using hc, Bool.true_and] at ha
        have HA := Lib.hid ha
        clear ha
        go_wp2_with fail
        go_roundw
        case rel => exact ⟨i + 1, HI2.out.1, by simp [hwi], HA.out, HF.out⟩
        case measure => simpa [intOf, hwi] using HI2.out.2
    · have hge : ¬ (i : Int) < (gs.length : Int) := by omega
      rw [List.drop_eq_nil_of_le (by omega)] at ha
      have HA := Lib.hid ha
      have HF := Lib.hid F
      clear ha F
      go_wp2_with fail
      go_ret
      exact ⟨by rw [HA.out]; rfl, HF.out⟩
end Go.Proofs.YtdnilnjlbobcmaaDoor.Gp
/- Package group's map from spots (a group's number, a cell's) to cells. -/

namespace Go.Proofs.YtdnilnjlbobcmaaDoor.Gp
open Go.RowKit Go.Maps Go.Proofs.YtdnilnjlbobcmaaDoor.Ar Go.Proofs.YtdnilnjlbobcmaaDoor.Mx
set_option linter.unusedVariables false
set_option linter.unusedSimpArgs false
theorem ownsP : laidOutB Tryd.prog = true := by kernel_rfl
theorem rowP : 65 < Tryd.prog.types.size := of_decide_eq_true (by kernel_rfl)
theorem keyP : Tryd.prog.keyTypeAt 2 65 = true := by kernel_rfl
theorem spotK : Keyed Tryd.prog 65 := Keyed.of_law (deep_law_laid ownsP (m := 2) (by omega) rowP keyP (by rw [Tryd.underlying65]))
def sp (k f : Int) : Value := .agg #[.int .i64 k, .int .i64 f]
def spl (k f : Int) : Lit := .string (keyBytes [.int .i64 k, .int .i64 f])
/-- Both numbers are ints. -/
def Wp (k f : Int) : Prop := (Lit.int .i64 k).wf = true ∧ (Lit.int .i64 f).wf = true
theorem keyOf_sp {k f : Int} (h : Wp k f) : keyOf Tryd.prog 65 (sp k f) = some (spl k f) := by
  obtain ⟨hk, hf⟩ := h
  have hkt : Tryd.prog.keyType 65 = true := by kernel_rfl
  have hfo : (sp k f).formed Tryd.prog 65 = true := by kernel_rfl
  have h2 : Tryd.prog.cellsOf 65 = 2 := by kernel_rfl
  have h1 : Tryd.prog.cellsOf 3 = 1 := by kernel_rfl
  obtain ⟨m, hm⟩ : ∃ m, Tryd.prog.types.size = m + 2 := ⟨Tryd.prog.types.size - 2, by kernel_rfl⟩
  unfold keyOf
  simp only [Tryd.underlying65]
  rw [if_pos (by simp [hkt, hfo]), hm]
  unfold Program.keyLits
  simp only [Tryd.underlying65, sp, Value.cells]
  rw [if_pos ⟨by rw [h2]; rfl, by decide +kernel⟩]
  simp [h1, Program.keyLits, Tryd.underlying3, hk, hf, spl]
theorem spl_inj {k f k' f' : Int} (h1 : Wp k f) (h2 : Wp k' f') (h : spl k f = spl k' f') : k = k' ∧ f = f' := by
  have := spotK.inj (keyOf_sp h1) ((keyOf_sp h2).trans (by rw [h]))
  unfold sp at this
  simpa using this
/-- D holds just the values that g tells, each at its own spot; elsewhere nothing is asked of it. -/
structure HoldsP (D : DataW Value) (g : Int → Int → Option Value) : Prop where
  map : IsMap D
  at_ : ∀ k f, Wp k f → has D (spl k f) = (g k f).isSome ∧ ∀ v, g k f = some v → ∀ zd, D.atKey (spl k f) zd = .held v
theorem holdsP_empty : HoldsP (.map []) (fun _ _ => none) := ⟨isMap_empty, fun k f _ => ⟨rfl, fun v h => by cases h⟩⟩
def putP (g : Int → Int → Option Value) (k f : Int) (v : Value) : Int → Int → Option Value := fun x y => if x = k ∧ y = f then some v else g x y
theorem HoldsP.put {D : DataW Value} {g : Int → Int → Option Value} (h : HoldsP D g) {k f : Int} (v : Value) (hw : Wp k f) : HoldsP (D.put (spl k f) (.held v)) (putP g k f v) := by
  refine ⟨h.map.put _ _, fun x y hxy => ?_⟩
  have hk' : WideAt.IsKeyLit (spl k f) := trivial
  unfold putP
  by_cases he : x = k ∧ y = f
  · obtain ⟨rfl, rfl⟩ := he
    rw [if_pos ⟨rfl, rfl⟩]
    exact ⟨by rw [has_put_same h.map hk']; rfl, fun u hu zd => by cases hu; exact atKey_put_same h.map hk' _ _⟩
  · rw [if_neg he]
    have hne : spl x y ≠ spl k f := fun e => he (spl_inj hxy hw e)
    obtain ⟨h1, h2⟩ := h.at_ x y hxy
    exact ⟨by rw [has_put_other hne]; exact h1, fun u hu zd => by rw [atKey_put_other hne]; exact h2 u hu zd⟩
/-- Block b is such a map, of at most n entries. -/
def PMap (w : World) (b n : Nat) (g : Int → Int → Option Value) : Prop := ∃ D, w.ownsMap Tryd.prog 65 asIs b n D ∧ HoldsP D g
theorem PMap.made (w : World) : PMap (w.alloc (.map #[] 0)) w.heap.size 0 (fun _ _ => none) := ⟨_, World.ownsMap_made w _ _ _, holdsP_empty⟩
theorem PMap.kept {w w' : World} {b n : Nat} {g : Int → Int → Option Value} {S : List Nat} (h : PMap w b n g) (f : Fr S w w') (hb : b ∉ S) : PMap w' b n g := by
  obtain ⟨D, ⟨es, clock, h1, h2⟩, hD⟩ := h
  exact ⟨D, ⟨es, clock, f.heap h1 hb, h2⟩, hD⟩
theorem PMap.up {w w' : World} {b n : Nat} {g : Int → Int → Option Value} (h : PMap w b n g) (f : Fr [] w w') : PMap w' b n g := h.kept f (by simp)
theorem PMap.lt {w : World} {b n : Nat} {g : Int → Int → Option Value} (h : PMap w b n g) : b < w.heap.size := by obtain ⟨D, h1, _⟩ := h; exact h1.lt
theorem PMap.is_map {w : World} {b n : Nat} {g : Int → Int → Option Value} (h : PMap w b n g) : ∃ es clock, w.heap[b]? = some (.map es clock) := by
  obtain ⟨D, ⟨es, clock, h1, _⟩, _⟩ := h; exact ⟨es, clock, h1⟩
theorem PMap.put {w : World} {b n : Nat} {g : Int → Int → Option Value} (h : PMap w b n g) (hn : n < maxLen) {k f : Int} (hw : Wp k f) (v : Value) :
    ∃ w', (Instr.mapUpdate 62 (.map (some b)) (sp k f) v).run Tryd.prog w = .ok () w' ∧ PMap w' b (n + 1) (putP g k f v) ∧ Fr [b] w w' := by
  obtain ⟨D, h1, hD⟩ := h
  obtain ⟨w', r1, r2, r3⟩ := h1.update spotK Tryd.underlying62 hn (keyOf_sp hw) (show asIs v = some (.held v, []) from rfl)
  exact ⟨w', r1, ⟨_, r2, hD.put v hw⟩, fr_grown_some r3⟩
theorem zeroCe (w : World) : (zeroValue 54).run Tryd.prog w = .ok (.agg #[.int .i64 0, .int .i64 0, .int .i64 0]) w := by kernel_rfl
theorem PMap.look {w : World} {b n : Nat} {g : Int → Int → Option Value} (h : PMap w b n g) {k f : Int} (hw : Wp k f) :
    (Instr.lookup 62 (.map (some b)) (sp k f) false).run Tryd.prog w = .ok ((g k f).getD (.agg #[.int .i64 0, .int .i64 0, .int .i64 0])) w := by
  obtain ⟨D, ⟨es, clock, hb, F, hs, hDe⟩, hD⟩ := h
  obtain ⟨hh, hv⟩ := hD.at_ k f hw
  rcases Maps.fit_look false spotK Tryd.underlying62 (zeroCe w) hb F (keyOf_sp hw) with ⟨hrun, _, hat⟩ | ⟨e0, y, _, _, hrun, hRv, hat, _⟩
  · rw [← hDe] at hat
    rw [has_false_of_atKey hat] at hh
    rw [show g k f = none by cases hg : g k f with | none => rfl | some v => rw [hg] at hh; simp at hh]
    simpa using hrun
  · rw [← hDe] at hat
    rw [has_true_of_atKey hat] at hh
    obtain ⟨v, hg⟩ : ∃ v, g k f = some v := by cases hg : g k f with | none => rw [hg] at hh; simp at hh | some v => exact ⟨v, rfl⟩
    have hy : y = (.held e0.val, []) := by unfold asIs at hRv; exact (Option.some.inj hRv).symm
    have h2 := hv v hg (.held (.agg #[.int .i64 0, .int .i64 0, .int .i64 0]))
    rw [hat, hy] at h2
    obtain rfl : e0.val = v := by cases h2; rfl
    rw [hg]
    simpa using hrun
end Go.Proofs.YtdnilnjlbobcmaaDoor.Gp
/- Package place: where what lies: what each function answers, of configurations in bounds. -/

namespace Go.Proofs.YtdnilnjlbobcmaaDoor.Pl
open Go.RowKit Go.Proofs.YtdnilnjlbobcmaaDoor.Ar
theorem conf_any (t c wd : Int) (w : World) :
    Calls Tryd.prog 21 #[.int .i64 t, .int .i64 c, .int .i64 wd] w fun e w' => e = .returned (.agg #[.int .i64 t, .int .i64 c, .int .i64 wd, .int .i64 1000]) ∧ Fr [] w w' := by
  go_enter Tryd.func21, Tryd.ntmps21
  go_wp2
  exact bodyPost_ret (v := .agg #[.int .i64 t, .int .i64 c, .int .i64 wd, .int .i64 1000]) (by simp [results, Tryd.results21, go_sem]) rfl ⟨rfl, (Fr.refl _ _).alloc _⟩
theorem size_any (t c wd v : Int) (h1 : 1 ≤ c) (h2 : c ≤ 16) (w : World) :
    Calls Tryd.prog 32 #[.agg #[.int .i64 t, .int .i64 c, .int .i64 wd, .int .i64 v]] w fun e w' => e = .returned (.int .i64 (7 + 3 * c)) ∧ Fr [] w w' := by
  go_enter Tryd.func32, Tryd.ntmps32
  go_wp2
  go_ret
  exact ⟨rfl, (Fr.refl _ _).alloc _⟩
theorem psa_any (t : Int) (h1 : 0 ≤ t) (h2 : t ≤ 8) (w : World) :
    Calls Tryd.prog 87 #[.int .i64 t] w fun e w' => e = .returned (.int .i64 (3 + t)) ∧ w = w' := by
  go_enter Tryd.func87, Tryd.ntmps87
  go_wp2
  go_ret
  exact ⟨rfl, rfl⟩
theorem firstHint_any (t c wd v : Int) (h1 : 1 ≤ t) (h2 : t ≤ 8) (w : World) :
    Calls Tryd.prog 79 #[.agg #[.int .i64 t, .int .i64 c, .int .i64 wd, .int .i64 v]] w fun e w' => e = .returned (.int .i64 (3 + t)) ∧ Fr [] w w' := by
  go_enter Tryd.func79, Tryd.ntmps79
  go_wp2_with (go_at_call 87; refine (psa_any _ (by omega) h2 _).mono ?_; rintro e w' ⟨rfl, rfl⟩)
  go_ret
  exact ⟨rfl, (Fr.refl _ _).alloc _⟩
theorem head_any (t c wd v : Int) (h1 : 1 ≤ t) (h2 : t ≤ 8) (w : World) :
    Calls Tryd.prog 64 #[.agg #[.int .i64 t, .int .i64 c, .int .i64 wd, .int .i64 v]] w fun e w' => e = .returned (.int .i64 (3 + t + 4)) ∧ Fr [] w w' := by
  go_enter Tryd.func64, Tryd.ntmps64
  go_wp2_with fail
  refine (firstHint_any t c wd v h1 h2 _).mono ?_; rintro e w1 ⟨rfl, F1⟩
  have G := ((Fr.refl [] w).alloc _).trans F1
  clear F1
  go_wp2
  go_ret
  exact ⟨rfl, G⟩
theorem first_any (t c wd v : Int) (h1 : 1 ≤ t) (h2 : t ≤ 8) (w : World) :
    Calls Tryd.prog 53 #[.agg #[.int .i64 t, .int .i64 c, .int .i64 wd, .int .i64 v]] w fun e w' => e = .returned (.int .i64 (3 + t + 4 + 7)) ∧ Fr [] w w' := by
  go_enter Tryd.func53, Tryd.ntmps53
  go_wp2_with fail
  refine (head_any t c wd v h1 h2 _).mono ?_; rintro e w1 ⟨rfl, F1⟩
  have G := ((Fr.refl [] w).alloc _).trans F1
  clear F1
  go_wp2
  go_ret
  exact ⟨rfl, G⟩
theorem cells4 {w : World} {b : Nat} {t : TypeId} {x0 x1 x2 x3 : Value} (h : w.heap[b]? = some (.cells #[x0, x1, x2, x3] t (0, 0))) :
    w.cell? ⟨b, 0, none⟩ = some x0 ∧ w.cell? ⟨b, 1, none⟩ = some x1 ∧ w.cell? ⟨b, 2, none⟩ = some x2 ∧ w.cell? ⟨b, 3, none⟩ = some x3 :=
  ⟨by rw [cell_of_row _ _ _ _ _ _ h]; rfl, by rw [cell_of_row _ _ _ _ _ _ h]; rfl, by rw [cell_of_row _ _ _ _ _ _ h]; rfl, by rw [cell_of_row _ _ _ _ _ _ h]; rfl⟩
theorem top_any (t c wd v : Int) (h1 : 1 ≤ t) (h2 : t ≤ 8) (h3 : 1 ≤ c) (h4 : c ≤ 16) (w : World) :
    Calls Tryd.prog 42 #[.agg #[.int .i64 t, .int .i64 c, .int .i64 wd, .int .i64 v]] w fun e w' => e = .returned (.int .i64 (21 + t + 3 * c)) ∧ Fr [] w w' := by
  go_enter Tryd.func42, Tryd.ntmps42
  go_wp2_with fail
  obtain ⟨c0, c1, c2, c3⟩ := cells4 (Go.heap_alloc_new w (.cells #[.int .i64 t, .int .i64 c, .int .i64 wd, .int .i64 v] 24))
  have k0 := In.cell c0
  have k1 := In.cell c1
  have k2 := In.cell c2
  have k3 := In.cell c3
  clear c0 c1 c2 c3
  refine wp_region_in (by kernel_rfl) (by kernel_rfl) ?_
  repeat (go_big_quiet_step ((first | (go_at_call 53; exact Calls.in_ (first_any _ _ _ _ h1 h2 _)) | (go_at_call 32; exact Calls.in_ (size_any _ _ _ _ h3 h4 _)))))
  refine wpQuiet_nil ?_
  intro w1 F1
  go_wp2
  go_ret
  exact ⟨ret_eq (by omega), ((Fr.refl [] w).alloc _).trans F1⟩
theorem within_true (n a b : Int) (h1 : a ≤ n) (h2 : n ≤ b) (w : World) :
    Calls Tryd.prog 41 #[.int .i64 n, .int .i64 a, .int .i64 b] w fun e w' => e = .returned (.bool true) ∧ w = w' := by
  go_enter Tryd.func41, Tryd.ntmps41
  go_wp2
  go_ret
  exact ⟨rfl, rfl⟩
theorem within_false (n a b : Int) (h : n < a ∨ b < n) (w : World) :
    Calls Tryd.prog 41 #[.int .i64 n, .int .i64 a, .int .i64 b] w fun e w' => e = .returned (.bool false) ∧ w = w' := by
  by_cases h1 : n < a
  · clear h
    go_enter Tryd.func41, Tryd.ntmps41
    go_wp2
    go_ret
    exact ⟨rfl, rfl⟩
  · have h2 : b < n := by omega
    have h3 : a ≤ n := by omega
    have hf : decide (n ≤ b) = false := by simp; omega
    clear h h1 h2
    go_enter Tryd.func41, Tryd.ntmps41
    go_wp2
    go_ret
    exact ⟨rfl, rfl⟩
/-- An error of that number, as a value; 0: none. -/
def errv (n : Int) : Value := if n = 0 then .nilIface else .iface 76 (.int .i64 n)
/-- What Is tells. -/
def form (t c wd v : Int) : Bool := decide (1 ≤ t) && decide (t ≤ 8) && decide (t + 2 ≤ c) && decide (c ≤ 16) && decide (1 ≤ v) && decide (v ≤ 1048576) && decide (1 ≤ wd) && decide (wd ≤ 20000)
def code (t c wd v : Int) : Int := if form t c wd v = true then (if 21 + t + 3 * c ≤ wd then 0 else 14) else 10
theorem form_iff {t c wd v : Int} : form t c wd v = true ↔ (1 ≤ t ∧ t ≤ 8 ∧ t + 2 ≤ c ∧ c ≤ 16 ∧ 1 ≤ v ∧ v ≤ 1048576 ∧ 1 ≤ wd ∧ wd ≤ 20000) := by
  simp only [form, Bool.and_eq_true, decide_eq_true_eq, and_assoc]
set_option maxHeartbeats 800000 in
theorem is_form (t c wd v : Int) (h : t < 1 ∨ 8 < t ∨ c < t + 2 ∨ 16 < c ∨ v < 1 ∨ 1048576 < v ∨ wd < 1 ∨ 20000 < wd) (w : World) :
    Calls Tryd.prog 29 #[.agg #[.int .i64 t, .int .i64 c, .int .i64 wd, .int .i64 v]] w fun e w' => e = .returned (.iface 76 (.int .i64 10)) ∧ Fr [] w w' := by
  by_cases hh : t < 1 ∨ 8 < t
  · clear h
    have F := within_false t 1 8 hh
    have H := Lib.hid F
    clear F hh
    go_enter Tryd.func29, Tryd.ntmps29
    go_wp2_with fail
    refine (H.out _).mono ?_; rintro e w1 ⟨rfl, rfl⟩
    go_wp2
    go_ret
    exact ⟨rfl, (Fr.refl _ _).alloc _⟩
  · have T := Lib.hid (within_true t 1 8 (by omega) (by omega))
    have t1 : 1 ≤ t := by omega
    have t2 : t ≤ 8 := by omega
    by_cases hc : c < t + 2 ∨ 16 < c
    · have H := Lib.hid (within_false c (t + 2) 16 hc)
      clear h hh hc
      go_enter Tryd.func29, Tryd.ntmps29
      go_wp2_with fail
      refine (T.out _).mono ?_; rintro e w1 ⟨rfl, rfl⟩
      go_wp2_with fail
      refine (H.out _).mono ?_; rintro e w1 ⟨rfl, rfl⟩
      go_wp2
      go_ret
      exact ⟨rfl, (Fr.refl _ _).alloc _⟩
    · have C := Lib.hid (within_true c (t + 2) 16 (by omega) (by omega))
      by_cases hv : v < 1 ∨ 1048576 < v
      · have H := Lib.hid (within_false v 1 1048576 hv)
        clear h hh hc hv
        go_enter Tryd.func29, Tryd.ntmps29
        go_wp2_with fail
        refine (T.out _).mono ?_; rintro e w1 ⟨rfl, rfl⟩
        go_wp2_with fail
        refine (C.out _).mono ?_; rintro e w1 ⟨rfl, rfl⟩
        go_wp2_with fail
        refine (H.out _).mono ?_; rintro e w1 ⟨rfl, rfl⟩
        go_wp2
        go_ret
        exact ⟨rfl, (Fr.refl _ _).alloc _⟩
      · have V := Lib.hid (within_true v 1 1048576 (by omega) (by omega))
        have H := Lib.hid (within_false wd 1 20000 (by omega))
        clear h hh hc hv
        go_enter Tryd.func29, Tryd.ntmps29
        go_wp2_with fail
        refine (T.out _).mono ?_; rintro e w1 ⟨rfl, rfl⟩
        go_wp2_with fail
        refine (C.out _).mono ?_; rintro e w1 ⟨rfl, rfl⟩
        go_wp2_with fail
        refine (V.out _).mono ?_; rintro e w1 ⟨rfl, rfl⟩
        go_wp2_with fail
        refine (H.out _).mono ?_; rintro e w1 ⟨rfl, rfl⟩
        go_wp2
        go_ret
        exact ⟨rfl, (Fr.refl _ _).alloc _⟩
set_option maxHeartbeats 800000 in
theorem is_well (t c wd v : Int) (h : form t c wd v = true) (w : World) :
    Calls Tryd.prog 29 #[.agg #[.int .i64 t, .int .i64 c, .int .i64 wd, .int .i64 v]] w fun e w' => e = .returned (errv (if 21 + t + 3 * c ≤ wd then 0 else 14)) ∧ Fr [] w w' := by
  obtain ⟨t1, t2, c1, c2, v1, v2, w1, w2⟩ := form_iff.1 h
  have T := Lib.hid (within_true t 1 8 t1 t2)
  have C := Lib.hid (within_true c (t + 2) 16 c1 c2)
  have V := Lib.hid (within_true v 1 1048576 v1 v2)
  have W := Lib.hid (within_true wd 1 20000 w1 w2)
  have TP := Lib.hid (top_any t c wd v t1 t2 (by omega) c2)
  clear h c1
  by_cases hf : 21 + t + 3 * c ≤ wd
  all_goals
    first | rw [if_pos hf] | rw [if_neg hf]
    go_enter Tryd.func29, Tryd.ntmps29
    go_wp2_with fail
    refine (T.out _).mono ?_; rintro e w1 ⟨rfl, rfl⟩
    go_wp2_with fail
    refine (C.out _).mono ?_; rintro e w1 ⟨rfl, rfl⟩
    go_wp2_with fail
    refine (V.out _).mono ?_; rintro e w1 ⟨rfl, rfl⟩
    go_wp2_with fail
    refine (W.out _).mono ?_; rintro e w1 ⟨rfl, rfl⟩
    go_wp2_with fail
    obtain ⟨c0, c1, c2, c3⟩ := cells4 (Go.heap_alloc_new w (.cells #[.int .i64 t, .int .i64 c, .int .i64 wd, .int .i64 v] 24))
    have k0 := In.cell c0
    have k1 := In.cell c1
    have k2 := In.cell c2
    have k3 := In.cell c3
    clear c0 c1 c2 c3
    refine wp_region_in (by kernel_rfl) (by kernel_rfl) ?_
    repeat (go_big_quiet_step ((go_at_call 42; exact Calls.in_ (TP.out _))))
    refine wpQuiet_nil ?_
    intro w1 F1
    have G := ((Fr.refl [] w).alloc _).trans F1
    clear F1
    go_wp2
    go_ret
    exact ⟨rfl, G⟩
theorem is_any (t c wd v : Int) (w : World) :
    Calls Tryd.prog 29 #[.agg #[.int .i64 t, .int .i64 c, .int .i64 wd, .int .i64 v]] w fun e w' => e = .returned (errv (code t c wd v)) ∧ Fr [] w w' := by
  cases h : form t c wd v
  · have hn : ¬ form t c wd v = true := by simp [h]
    rw [form_iff] at hn
    rw [code, if_neg (by simp [h])]
    exact is_form t c wd v (by omega) w
  · rw [code, if_pos h]; exact is_well t c wd v h w
end Go.Proofs.YtdnilnjlbobcmaaDoor.Pl
/- Errors that are numbers of type api.Errno: errors.Is and errors.As of them, by contracts. (Go's own text of errors.Is, errors.is, errors.As is walked.) -/

namespace Go.Proofs.YtdnilnjlbobcmaaDoor.Er
open Go.RowKit Go.Extern.Stop Go.Stop Go.Extern Go.Proofs.YtdnilnjlbobcmaaDoor.Ar
theorem isE : Tryd.prog.isIface 59 = true := by kernel_rfl
theorem comparableE (w : World) : ((Extern.ReflectliteType.method fun t => do Extern.Rtype.noPackHeld "Comparable" t; (fun a => Value.bool a.comparable) <$> typeInfo t) #[.agg #[.pointer (some ⟨1, 76, none⟩)]]).run Tryd.prog w = .ok (.bool true) w := by kernel_rfl
end Go.Proofs.YtdnilnjlbobcmaaDoor.Er
/- Package view: chunks, as they lie: what each function answers. -/

namespace Go.Proofs.YtdnilnjlbobcmaaDoor.Vw
open Go.RowKit Go.Proofs.YtdnilnjlbobcmaaDoor.Ar Go.Proofs.YtdnilnjlbobcmaaDoor.Mx
set_option linter.unusedVariables false
set_option linter.unusedSimpArgs false
/-- A cell: state, key, data. -/
structure Ce where
  s : Int
  k : Int
  d : Int
deriving DecidableEq
def fC (x : Ce) : List Value := [.int .i64 x.s, .int .i64 x.k, .int .i64 x.d]
theorem fC_lays : Lays fC 3 := ⟨fun _ => rfl, fun x u hu => by simp [fC] at hu; rcases hu with rfl | rfl | rfl <;> rfl, by decide⟩
theorem ceI : (Tryd.prog.info? 54).map (fun i => (i.zero, i.size, i.bytes)) = some (some (.agg #[.int .i64 0, .int .i64 0, .int .i64 0]), 3, 24) := by kernel_rfl
/-- A chunk but for its cells. -/
structure Hd where
  at_ : Int
  mn : Int
  ct : Int
  nx : Int
  ld : Int
  mt : Int
  rp : Int
  st : Int
deriving DecidableEq
def chV (h : Hd) (lv : Value) : Value := .agg #[.int .i64 h.at_, .int .i64 h.mn, .int .i64 h.ct, .int .i64 h.nx, .int .i64 h.ld, .int .i64 h.mt, .int .i64 h.rp, .int .i64 h.st, lv]
def frV (h : Hd) : Value := .agg #[.int .i64 h.at_, .int .i64 h.mn, .int .i64 h.ct, .int .i64 h.nx, .int .i64 h.ld, .int .i64 h.mt, .int .i64 h.rp, .int .i64 h.st]
def chC (h : Hd) (lv : Value) : Array Value := #[.int .i64 h.at_, .int .i64 h.mn, .int .i64 h.ct, .int .i64 h.nx, .int .i64 h.ld, .int .i64 h.mt, .int .i64 h.rp, .int .i64 h.st, lv]
theorem ch_cells {w : World} {b : Nat} {T : TypeId} {h : Hd} {lv : Value} (o : Ob w b T (chC h lv)) : w.cell? ⟨b, 0, none⟩ = some (.int .i64 h.at_) ∧ w.cell? ⟨b, 1, none⟩ = some (.int .i64 h.mn) ∧ w.cell? ⟨b, 2, none⟩ = some (.int .i64 h.ct) ∧ w.cell? ⟨b, 3, none⟩ = some (.int .i64 h.nx) ∧ w.cell? ⟨b, 4, none⟩ = some (.int .i64 h.ld) ∧ w.cell? ⟨b, 5, none⟩ = some (.int .i64 h.mt) ∧ w.cell? ⟨b, 6, none⟩ = some (.int .i64 h.rp) ∧ w.cell? ⟨b, 7, none⟩ = some (.int .i64 h.st) ∧ w.cell? ⟨b, 8, none⟩ = some lv :=
  ⟨o.cell rfl, o.cell rfl, o.cell rfl, o.cell rfl, o.cell rfl, o.cell rfl, o.cell rfl, o.cell rfl, o.cell rfl⟩
def ChIs (w : World) (v : Value) (h : Hd) (cs : List Ce) : Prop := ∃ lv, v = chV h lv ∧ Sq fC w lv cs
theorem ChIs.up {w w' : World} {v : Value} {h : Hd} {cs : List Ce} (k : ChIs w v h cs) (f : Fr [] w w') : ChIs w' v h cs := by
  obtain ⟨lv, rfl, s⟩ := k
  exact ⟨lv, rfl, s.up f⟩
def verV (s : Int) : Int := if s < 3 then -1 else wrap64 (s - 3)
def itemC (c : Ce) : Option It := if 3 ≤ c.s then some ⟨c.k, verV c.s, c.d⟩ else none
def itemsC (cs : List Ce) : List It := cs.filterMap itemC
theorem ceGuard : Tryd.prog.eqGuardType Tryd.prog.depth 54 = false := by kernel_rfl
theorem ce_neq (x y : Ce) (W : World) : (binOp .neq 54 (.agg #[.int .i64 x.s, .int .i64 x.k, .int .i64 x.d]) (.agg #[.int .i64 y.s, .int .i64 y.k, .int .i64 y.d])).run Tryd.prog W = .ok (.bool (decide (x ≠ y))) W := by
  obtain ⟨k, i, o⟩ := x
  obtain ⟨k', i', o'⟩ := y
  have u3 := Tryd.underlying3
  have a3 : (isAgg 3).run Tryd.prog W = .ok false W := by kernel_rfl
  have hS : Tryd.prog.underlying 54 = some (.struct (Tryd.prog.fieldsOf 54)) := by kernel_rfl
  have hp : Tryd.prog.stoodInHeld 54 = false := by kernel_rfl
  rw [run_neq_struct, show (10000 : Nat) = 9999 + 1 from rfl, run_equalIn_agg W 9999 54 _ _ hS hp]
  simp only [Program.fieldsOf, Tryd.underlying54]
  go_simp
  by_cases h1 : k = k' <;> by_cases h2 : i = i' <;> by_cases h3 : o = o' <;> simp [h1, h2, h3]
theorem ce_cells {w : World} {a : Option Addr} {n cap i : Nat} {xs : List Ce} {x : Ce} (h : Sq fC w (.slice a n cap) xs) (hi : xs[i]? = some x) :
    ∃ g off, a = some ⟨g, off, none⟩ ∧ w.cell? ⟨g, off + i * 3, none⟩ = some (.int .i64 x.s) ∧ w.cell? ⟨g, off + i * 3 + 1, none⟩ = some (.int .i64 x.k) ∧ w.cell? ⟨g, off + i * 3 + 2, none⟩ = some (.int .i64 x.d) := by
  obtain ⟨-, g, off, rfl, hc⟩ := Sq.cell fC_lays h hi
  exact ⟨g, off, rfl, hc 0 _ rfl, hc 1 _ rfl, hc 2 _ rfl⟩
theorem itemsC_succ {cs : List Ce} {i : Nat} {x : Ce} (hx : cs[i]? = some x) : itemsC (cs.take (i + 1)) = itemsC (cs.take i) ++ (itemC x).toList := by
  unfold itemsC
  rw [List.take_add_one, hx, Option.toList_some, List.filterMap_append]
  cases h : itemC x <;> simp [h]
theorem itemsC_length (cs : List Ce) : (itemsC cs).length ≤ cs.length := by unfold itemsC; exact List.length_filterMap_le _ _
/-- Where the search for items stands. -/
def ItAt (w : World) (cs : List Ce) (u x : Value) (wr : World) : Prop := ∃ i, i ≤ cs.length ∧ x = .int .i64 (i : Nat) ∧ wr.ownsRow w.heap.size 43 3 u (itemsC (cs.take i)).length ((itemsC (cs.take i)).flatMap fT) ∧ Fr [] w wr
/-- Rows of cells. -/
def EqCAt (w : World) (xs ys : List Ce) (x : Value) (wr : World) : Prop := ∃ n : Nat, n ≤ xs.length ∧ x = .int .i64 n ∧ Fr [] w wr ∧ xs.take n = ys.take n
theorem take_more {α : Type} {xs ys : List α} {n : Nat} {x y : α} (h : xs.take n = ys.take n) (hx : xs[n]? = some x) (hy : ys[n]? = some y) (e : x = y) : xs.take (n + 1) = ys.take (n + 1) := by
  rw [List.take_add_one, List.take_add_one, h, hx, hy, e]
theorem take_less {α : Type} [DecidableEq α] {xs ys : List α} {n : Nat} {x y : α} (hx : xs[n]? = some x) (hy : ys[n]? = some y) (e : x ≠ y) : decide (xs = ys) = false := by
  apply decide_eq_false; rintro rfl; rw [hx] at hy; exact e (Option.some.inj hy)
end Go.Proofs.YtdnilnjlbobcmaaDoor.Vw
/- Chunks that are to be laid: functions of lists alone. -/

namespace Go.Proofs.YtdnilnjlbobcmaaDoor.Mx
open Go.RowKit Go.Proofs.YtdnilnjlbobcmaaDoor.Ar
/-- A chunk that is to be laid. -/
structure Nk where
  at_ : Int
  mn : Int
  ct : Int
  nx : Int
  its : List It
def chunksF (c : Cf) (at_ after : Int) : List (List It) → List Int → List Nk
  | [], _ => []
  | g :: r, ms => ⟨at_, ms.headD 0, g.length, nextW (if r = [] then after else wrap64 (at_ + sizeP c)) false, g⟩ :: chunksF c (wrap64 (at_ + sizeP c)) after r ms.tail
def chunksT (c : Cf) (at_ after least : Int) (gs : List (List It)) : List Nk :=
  if gs.all (fun g => decide ((g.length : Int) ≤ c.c)) = true then chunksF c at_ after gs (minsT least gs) else []
/-- Chunk number i. -/
theorem chunksF_length (c : Cf) (after : Int) : ∀ (gs : List (List It)) (at_ : Int) (ms : List Int), (chunksF c at_ after gs ms).length = gs.length
  | [], _, _ => rfl
  | g :: r, at_, ms => by unfold chunksF; rw [List.length_cons, chunksF_length c after r]; rfl
theorem chunksF_at {c : Cf} (after : Int) (hc0 : 0 ≤ sizeP c) : ∀ (gs : List (List It)) (at_ : Int) (ms : List Int) (i : Nat) (g : List It) (m : Int), 0 ≤ at_ → at_ + sizeP c * (gs.length : Int) ≤ 4611686018427387904 → gs[i]? = some g → ms[i]? = some m →
    (chunksF c at_ after gs ms)[i]? = some ⟨at_ + sizeP c * (i : Int), m, (g.length : Int), nextW (if i + 1 = gs.length then after else at_ + sizeP c * ((i : Int) + 1)) false, g⟩
  | [], _, _, i, g, m, _, _, hg, _ => by simp at hg
  | a :: r, at_, ms, i, g, m, h0, hb, hg, hm => by
    have hlen : sizeP c * (((a :: r).length : Nat) : Int) = sizeP c * (r.length : Int) + sizeP c := by rw [List.length_cons, Int.natCast_add, Int.mul_add]; simp
    have hrl : 0 ≤ sizeP c * (r.length : Int) := Int.mul_nonneg hc0 (by omega)
    rw [hlen] at hb
    have hw : wrap64 (at_ + sizeP c) = at_ + sizeP c := w64 (by omega) (by omega)
    unfold chunksF
    rw [hw]
    cases i with
    | zero =>
      obtain rfl : a = g := by simpa using hg
      have hmm : ms.headD 0 = m := by cases ms <;> simp_all
      rw [List.getElem?_cons_zero, hmm]
      congr 2
      · simp
      · congr 1
        by_cases hr : r = []
        · subst hr; simp
        · rw [if_neg hr, if_neg (by rw [List.length_cons]; have := List.length_pos_iff.2 hr; omega)]; simp
    | succ i =>
      rw [List.getElem?_cons_succ]
      have hm' : ms.tail[i]? = some m := by cases ms <;> simp_all
      rw [chunksF_at after hc0 r (at_ + sizeP c) ms.tail i g m (by omega) (by omega) (by simpa using hg) hm']
      have e1 : at_ + sizeP c + sizeP c * (i : Int) = at_ + sizeP c * ((i + 1 : Nat) : Int) := by rw [Int.natCast_add, Int.mul_add]; simp; omega
      have e2 : at_ + sizeP c + sizeP c * ((i : Int) + 1) = at_ + sizeP c * (((i + 1 : Nat) : Int) + 1) := by rw [Int.natCast_add, Int.mul_add, Int.mul_add, Int.mul_add]; simp; omega
      rw [e1, e2, List.length_cons]
      congr 3
      by_cases h : i + 1 = r.length
      · rw [if_pos h, if_pos (by omega)]
      · rw [if_neg h, if_neg (by omega)]
end Go.Proofs.YtdnilnjlbobcmaaDoor.Mx
/- Chunks as a row's elements: what they hold; rows that are filled one by one. -/

namespace Go.Proofs.YtdnilnjlbobcmaaDoor.Mx
open Go.RowKit Go.Proofs.YtdnilnjlbobcmaaDoor.Ar Go.Proofs.YtdnilnjlbobcmaaDoor.Vw
set_option linter.unusedVariables false
set_option linter.unusedSimpArgs false
/-- A chunk as a row's element: its header, the slice of its cells. -/
structure Chs where
  h : Hd
  s : Sv
def fH (x : Chs) : List Value := [.int .i64 x.h.at_, .int .i64 x.h.mn, .int .i64 x.h.ct, .int .i64 x.h.nx, .int .i64 x.h.ld, .int .i64 x.h.mt, .int .i64 x.h.rp, .int .i64 x.h.st, x.s.v]
theorem fH_lays : Lays fH 9 := ⟨fun _ => rfl, fun x u hu => by simp [fH] at hu; rcases hu with rfl | rfl | rfl | rfl | rfl | rfl | rfl | rfl | rfl <;> rfl, by decide⟩
theorem chI : (Tryd.prog.info? 40).map (fun i => (i.zero, i.size, i.bytes)) = some (some (.agg #[.int .i64 0, .int .i64 0, .int .i64 0, .int .i64 0, .int .i64 0, .int .i64 0, .int .i64 0, .int .i64 0, .slice none 0 0]), 9, 88) := by kernel_rfl
def Chs.next (x : Chs) (n : Int) : Chs := ⟨{ x.h with nx := n }, x.s⟩
def ceO (o : Option It) : Ce := match o with
  | some x => ⟨stateW x.v, x.k, x.d⟩
  | none => ⟨0, 0, 0⟩
/-- A chunk's cells: the group's items, the others zero. -/
def cesOf (cap : Nat) (g : List It) : List Ce := (List.range cap).map fun j => ceO g[j]?
theorem ces_len (cap : Nat) (g : List It) : (cesOf cap g).length = cap := by simp [cesOf]
theorem ces_at {cap : Nat} {g : List It} {j : Nat} (h : j < cap) : (cesOf cap g)[j]? = some (ceO g[j]?) := by simp [cesOf, h]
def hdOf (n : Nk) : Hd := ⟨n.at_, n.mn, n.ct, n.nx, 0, 0, 0, 0⟩
/-- Chunks as a row of values: which they are. -/
def ChsIs (w : World) (xs : List Chs) (ns : List Nk) (cap : Nat) : Prop := xs.length = ns.length ∧ ∀ (i : Nat) (x : Chs) (n : Nk), xs[i]? = some x → ns[i]? = some n → x.h = hdOf n ∧ Sq fC w x.s.v (cesOf cap n.its)
theorem ChsIs.up {w w' : World} {xs : List Chs} {ns : List Nk} {cap : Nat} (h : ChsIs w xs ns cap) (f : Fr [] w w') : ChsIs w' xs ns cap :=
  ⟨h.1, fun i x n e1 e2 => ⟨(h.2 i x n e1 e2).1, (h.2 i x n e1 e2).2.up f⟩⟩
def zCh : Chs := ⟨⟨0, 0, 0, 0, 0, 0, 0, 0⟩, ⟨none, 0, 0⟩⟩
def zCe : Ce := ⟨0, 0, 0⟩
theorem ob_seg9 {w : World} {b : Nat} {T : TypeId} {xs : List Chs} (o : Ob w b T (xs.flatMap fH).toArray) {i : Nat} {x : Chs} (hi : xs[i]? = some x) (y : Chs) :
    Ob (((((((((w.setCell ⟨b, i * 9, none⟩ (.int .i64 y.h.at_)).setCell ⟨b, i * 9 + 1, none⟩ (.int .i64 y.h.mn)).setCell ⟨b, i * 9 + 2, none⟩ (.int .i64 y.h.ct)).setCell ⟨b, i * 9 + 3, none⟩ (.int .i64 y.h.nx)).setCell ⟨b, i * 9 + 4, none⟩ (.int .i64 y.h.ld)).setCell ⟨b, i * 9 + 5, none⟩ (.int .i64 y.h.mt)).setCell ⟨b, i * 9 + 6, none⟩ (.int .i64 y.h.rp)).setCell ⟨b, i * 9 + 7, none⟩ (.int .i64 y.h.st)).setCell ⟨b, i * 9 + 8, none⟩ y.s.v) b T ((xs.set i y).flatMap fH).toArray := by
  obtain ⟨⟨a0, a1, a2, a3, a4, a5, a6, a7⟩, s⟩ := x
  obtain ⟨⟨b0, b1, b2, b3, b4, b5, b6, b7⟩, r⟩ := y
  have hl := (List.getElem?_eq_some_iff.1 hi).1
  have nx : ∀ z : Chs, (xs.set i z)[i]? = some z := fun z => by rw [List.getElem?_set_self hl]
  have s0 := o.seg fH_lays (i := i) (j := 0) (x' := ⟨⟨b0, a1, a2, a3, a4, a5, a6, a7⟩, s⟩) (u := .int .i64 b0) hi (by decide) rfl
  have s1 := s0.seg fH_lays (i := i) (j := 1) (x' := ⟨⟨b0, b1, a2, a3, a4, a5, a6, a7⟩, s⟩) (u := .int .i64 b1) (nx _) (by decide) rfl
  rw [List.set_set] at s1
  have s2 := s1.seg fH_lays (i := i) (j := 2) (x' := ⟨⟨b0, b1, b2, a3, a4, a5, a6, a7⟩, s⟩) (u := .int .i64 b2) (nx _) (by decide) rfl
  rw [List.set_set] at s2
  have s3 := s2.seg fH_lays (i := i) (j := 3) (x' := ⟨⟨b0, b1, b2, b3, a4, a5, a6, a7⟩, s⟩) (u := .int .i64 b3) (nx _) (by decide) rfl
  rw [List.set_set] at s3
  have s4 := s3.seg fH_lays (i := i) (j := 4) (x' := ⟨⟨b0, b1, b2, b3, b4, a5, a6, a7⟩, s⟩) (u := .int .i64 b4) (nx _) (by decide) rfl
  rw [List.set_set] at s4
  have s5 := s4.seg fH_lays (i := i) (j := 5) (x' := ⟨⟨b0, b1, b2, b3, b4, b5, a6, a7⟩, s⟩) (u := .int .i64 b5) (nx _) (by decide) rfl
  rw [List.set_set] at s5
  have s6 := s5.seg fH_lays (i := i) (j := 6) (x' := ⟨⟨b0, b1, b2, b3, b4, b5, b6, a7⟩, s⟩) (u := .int .i64 b6) (nx _) (by decide) rfl
  rw [List.set_set] at s6
  have s7 := s6.seg fH_lays (i := i) (j := 7) (x' := ⟨⟨b0, b1, b2, b3, b4, b5, b6, b7⟩, s⟩) (u := .int .i64 b7) (nx _) (by decide) rfl
  rw [List.set_set] at s7
  have s8 := s7.seg fH_lays (i := i) (j := 8) (x' := ⟨⟨b0, b1, b2, b3, b4, b5, b6, b7⟩, r⟩) (u := r.v) (nx _) (by decide) rfl
  rw [List.set_set] at s8
  exact s8
theorem ob_seg3 {w : World} {b : Nat} {T : TypeId} {xs : List Ce} (o : Ob w b T (xs.flatMap fC).toArray) {i : Nat} {x : Ce} (hi : xs[i]? = some x) (y : Ce) :
    Ob (((w.setCell ⟨b, i * 3, none⟩ (.int .i64 y.s)).setCell ⟨b, i * 3 + 1, none⟩ (.int .i64 y.k)).setCell ⟨b, i * 3 + 2, none⟩ (.int .i64 y.d)) b T ((xs.set i y).flatMap fC).toArray := by
  obtain ⟨a0, a1, a2⟩ := x
  obtain ⟨b0, b1, b2⟩ := y
  have hl := (List.getElem?_eq_some_iff.1 hi).1
  have nx : ∀ z : Ce, (xs.set i z)[i]? = some z := fun z => by rw [List.getElem?_set_self hl]
  have s0 := o.seg fC_lays (i := i) (j := 0) (x' := ⟨b0, a1, a2⟩) (u := .int .i64 b0) hi (by decide) rfl
  have s1 := s0.seg fC_lays (i := i) (j := 1) (x' := ⟨b0, b1, a2⟩) (u := .int .i64 b1) (nx _) (by decide) rfl
  rw [List.set_set] at s1
  have s2 := s1.seg fC_lays (i := i) (j := 2) (x' := ⟨b0, b1, b2⟩) (u := .int .i64 b2) (nx _) (by decide) rfl
  rw [List.set_set] at s2
  exact s2
theorem fr9 {w : World} {b : Nat} (i0 i1 i2 i3 i4 i5 i6 i7 i8 : Nat) (v0 v1 v2 v3 v4 v5 v6 v7 v8 : Value) : Fr [b] w (((((((((w.setCell ⟨b, i0, none⟩ v0).setCell ⟨b, i1, none⟩ v1).setCell ⟨b, i2, none⟩ v2).setCell ⟨b, i3, none⟩ v3).setCell ⟨b, i4, none⟩ v4).setCell ⟨b, i5, none⟩ v5).setCell ⟨b, i6, none⟩ v6).setCell ⟨b, i7, none⟩ v7).setCell ⟨b, i8, none⟩ v8) := by
  have hb : b ∈ [b] := List.mem_singleton.2 rfl
  exact ((((((((Fr.setCell v0 hb).setCell' v1 hb).setCell' v2 hb).setCell' v3 hb).setCell' v4 hb).setCell' v5 hb).setCell' v6 hb).setCell' v7 hb).setCell' v8 hb
theorem fr3c {w : World} {b : Nat} (i0 i1 i2 : Nat) (v0 v1 v2 : Value) : Fr [b] w (((w.setCell ⟨b, i0, none⟩ v0).setCell ⟨b, i1, none⟩ v1).setCell ⟨b, i2, none⟩ v2) := by
  have hb : b ∈ [b] := List.mem_singleton.2 rfl
  exact ((Fr.setCell v0 hb).setCell' v1 hb).setCell' v2 hb
theorem fr_mix {S T : List Nat} {a b c : World} (h : Fr S a b) (k : Fr T b c) (hT : ∀ i, i ∈ T → i ∈ S ∨ a.heap.size ≤ i) : Fr S a c :=
  ⟨k.os.trans h.os, k.tape.trans h.tape, k.output.trans h.output, Nat.le_trans h.size k.size, fun i hi hn => (k.block i (Nat.lt_of_lt_of_le hi h.size) (fun hS => (hT i hS).elim (fun e => hn e) (fun e => by omega))).trans (h.block i hi hn)⟩
theorem at_wrap {at_ i cap : Int} (h0 : 0 ≤ at_) (h1 : at_ ≤ 1000000) (h2 : 0 ≤ i) (h3 : i ≤ 1000) (h4 : 0 ≤ cap) (h5 : cap ≤ 16) : wrap64 (at_ + wrap64 (i * (7 + 3 * cap))) = at_ + (7 + 3 * cap) * i := by
  have h6 : 0 ≤ i * (7 + 3 * cap) := Int.mul_nonneg h2 (by omega)
  have h7 : i * (7 + 3 * cap) ≤ 1000 * (7 + 3 * cap) := Int.mul_le_mul_of_nonneg_right h3 (by omega)
  rw [w64 (a := i * (7 + 3 * cap)) (by omega) (by omega), w64 (by omega) (by omega), Int.mul_comm i]
theorem row_next {α : Type} {done : List α} {n : Nat} {z x : α} (h : done.length < n) : (done ++ List.replicate (n - done.length) z).set done.length x = (done ++ [x]) ++ List.replicate (n - (done.length + 1)) z := by
  rw [show n - done.length = (n - (done.length + 1)) + 1 by omega, List.replicate_succ, List.set_append_right _ _ (Nat.le_refl _), Nat.sub_self, List.set_cons_zero, List.append_assoc]; rfl
theorem row_nextAt {α : Type} {done : List α} {n : Nat} {z : α} (h : done.length < n) : (done ++ List.replicate (n - done.length) z)[done.length]? = some z := by
  rw [show n - done.length = (n - (done.length + 1)) + 1 by omega, List.replicate_succ, List.getElem?_append_right (Nat.le_refl _), Nat.sub_self]; rfl
theorem meas {n j : Nat} {z : Int} (hz : z = (j : Int) + 1) (h : n - (j + 1) < n - j) : n - z.toNat < n - ((j : Int)).toNat := by
  subst hz; rw [show ((j : Int) + 1).toNat = j + 1 by omega, Int.toNat_natCast]; exact h
end Go.Proofs.YtdnilnjlbobcmaaDoor.Mx
/- Package group's filled: the map of all cells that have an item. -/

namespace Go.Proofs.YtdnilnjlbobcmaaDoor.Gp
open Go.RowKit Go.Maps Go.Proofs.YtdnilnjlbobcmaaDoor.Ar Go.Proofs.YtdnilnjlbobcmaaDoor.Mx
set_option linter.unusedVariables false
set_option linter.unusedSimpArgs false
theorem tab_kept {S : List Nat} {w w' : World} (t : Word.Tab w) (f : Fr S w w') (h : 0 ∉ S) : Word.Tab w' := by
  obtain ⟨t0, t1, t2, t3, t4, t5, t6, t7, t8, t9, t10, t11⟩ := t
  exact ⟨f.cell t0 h, f.cell t1 h, f.cell t2 h, f.cell t3 h, f.cell t4 h, f.cell t5 h, f.cell t6 h, f.cell t7 h, f.cell t8 h, f.cell t9 h, f.cell t10 h, f.cell t11 h⟩
theorem tab_up {w w' : World} (t : Word.Tab w) (f : Fr [] w w') : Word.Tab w' := tab_kept t f (by simp)
theorem tab_lt {w : World} (t : Word.Tab w) : 0 < w.heap.size := World.block_lt_of_cell? w _ t.1
theorem tab_ne {w : World} (t : Word.Tab w) {b : Nat} (h : w.heap.size ≤ b) : 0 ∉ [b] := by have := tab_lt t; simp; omega
theorem fr_dr {w w' : World} (h : Word.Dr w w') : Fr [] w w' := by obtain ⟨m, rfl⟩ := h; exact (Fr.refl [] w).drewN m
theorem stateI_eq (v : Int) : Word.stateI v = stateW v := by unfold Word.stateI Word.heldI stateW hd; split <;> split <;> omega
theorem nextI_eq (v : Int) (b : Bool) : Word.nextI v b = nextW v b := by unfold Word.nextI Word.heldI nextW hd Word.bit; cases b <;> (simp only [Bool.false_eq_true, if_false, if_true]; split <;> split <;> omega)
theorem state9 (v : Int) (w : World) (t : Word.Tab w) : Calls Tryd.prog 43 #[.int .i64 v] w fun e w' => e = .returned (.int .i64 (stateW v)) ∧ Fr [] w w' :=
  (Word.state_any v w t).mono fun e w' ⟨h, d⟩ => ⟨by rw [h, stateI_eq], fr_dr d⟩
theorem next9 (v : Int) (b : Bool) (w : World) (t : Word.Tab w) : Calls Tryd.prog 44 #[.int .i64 v, .bool b] w fun e w' => e = .returned (.int .i64 (nextW v b)) ∧ Fr [] w w' :=
  (Word.next_any v b w t).mono fun e w' ⟨h, d⟩ => ⟨by rw [h, nextI_eq], fr_dr d⟩
def ceV (x : It) : Value := .agg #[.int .i64 (stateW x.v), .int .i64 x.k, .int .i64 x.d]
def spotG (gs : List (List It)) (i j : Int) : Option Value := if 0 ≤ i ∧ 0 ≤ j then (gs[i.toNat]?.bind fun g => g[j.toNat]?).map ceV else none
theorem spotG_nil (gs : List (List It)) : spotG (gs ++ [[]]) = spotG gs := by
  funext a b
  unfold spotG
  by_cases h : 0 ≤ a ∧ 0 ≤ b
  · rw [if_pos h, if_pos h]
    by_cases h1 : a.toNat < gs.length
    · rw [List.getElem?_append_left h1]
    · rw [List.getElem?_eq_none (by omega : gs.length ≤ a.toNat)]
      by_cases h2 : a.toNat = gs.length
      · rw [h2]; simp
      · rw [List.getElem?_eq_none (by simp; omega)]
  · rw [if_neg h, if_neg h]
theorem spotG_put (gs : List (List It)) (g : List It) (x : It) : putP (spotG (gs ++ [g])) (gs.length : Int) (g.length : Int) (ceV x) = spotG (gs ++ [g ++ [x]]) := by
  funext a b
  unfold putP spotG
  by_cases h : 0 ≤ a ∧ 0 ≤ b
  · by_cases h1 : a.toNat < gs.length
    · rw [if_neg (by omega), if_pos h, if_pos h, List.getElem?_append_left h1, List.getElem?_append_left h1]
    · by_cases h2 : a.toNat = gs.length
      · have ha : (gs ++ [g])[a.toNat]? = some g := by rw [h2]; simp
        have hb : (gs ++ [g ++ [x]])[a.toNat]? = some (g ++ [x]) := by rw [h2]; simp
        rw [if_pos h, if_pos h, ha, hb]
        simp only [Option.bind_some]
        by_cases h3 : b.toNat < g.length
        · rw [if_neg (by omega), List.getElem?_append_left h3]
        · by_cases h4 : b.toNat = g.length
          · rw [if_pos (by omega), h4]; simp
          · rw [if_neg (by omega), List.getElem?_eq_none (by omega), List.getElem?_eq_none (by simp; omega)]
      · rw [if_neg (by omega), if_pos h, if_pos h, List.getElem?_eq_none (by simp; omega), List.getElem?_eq_none (by simp; omega)]
  · rw [if_neg h, if_neg h, if_neg (by omega)]
theorem spotG_at {gs : List (List It)} {i j : Nat} {g : List It} (h : gs[i]? = some g) : spotG gs (i : Int) (j : Int) = (g[j]?).map ceV := by
  unfold spotG
  rw [if_pos ⟨by omega, by omega⟩]
  simp [h]
theorem spotG_take {gs : List (List It)} {i : Nat} {g : List It} (h : gs[i]? = some g) : gs.take (i + 1) = gs.take i ++ [g] := by rw [List.take_add_one, h]; rfl
theorem spotG_none : spotG [] = fun _ _ => none := by funext a b; unfold spotG; split <;> simp
theorem flat_take_le : ∀ (gs : List (List It)) (n : Nat), (gs.take n).flatten.length ≤ gs.flatten.length
  | [], n => by simp
  | g :: gs, 0 => by simp
  | g :: gs, n + 1 => by rw [List.take_succ_cons, List.flatten_cons, List.flatten_cons, List.length_append, List.length_append]; have := flat_take_le gs n; omega
theorem lt_max1 {n : Nat} (h : n ≤ 2000) : n < maxLen := by unfold maxLen; omega
theorem wp_sm {i j : Nat} (h : i ≤ 1000) (h' : j ≤ 1000) : Wp (i : Int) (j : Int) := ⟨WalkArith.wf_i64 (by omega), WalkArith.wf_i64 (by omega)⟩
/-- Where the outer, the inner loop stand. -/
def Fo9 (w : World) (bm : Nat) (gs : List (List It)) (x : Value) (wr : World) : Prop := ∃ i : Nat, i ≤ gs.length ∧ x = .int .i64 (i : Nat) ∧ PMap wr bm (gs.take i).flatten.length (spotG (gs.take i)) ∧ Fr [] w wr
def Fn9 (w : World) (bm : Nat) (gs : List (List It)) (i : Nat) (g : List It) (x : Value) (wr : World) : Prop := ∃ j : Nat, j ≤ g.length ∧ x = .int .i64 (j : Nat) ∧ PMap wr bm ((gs.take i).flatten.length + j) (spotG (gs.take i ++ [g.take j])) ∧ Fr [] w wr
set_option maxRecDepth 100000 in
set_option maxHeartbeats 6400000 in
theorem filled_any (gs : List (List It)) (ss : List Sv) (u : Value) (w : World) (t : Word.Tab w) (hl : gs.length ≤ 1000) (hl2 : gs.flatten.length ≤ 1000) (h : Sq fS w u ss) (hg : Gs w ss gs) :
    Calls Tryd.prog 31 #[u] w fun e w' => (∃ n, e = .returned (.map (some w.heap.size)) ∧ PMap w' w.heap.size n (spotG gs)) ∧ Fr [] w w' := by
  obtain ⟨av, cv, rfl, hcv, hmv, -⟩ := id h
  have hsl := hg.1
  rw [hsl] at h hcv ⊢
  have hmm := @run_makeMap Tryd.prog
  have m0 := PMap.made w
  have F0 := (Fr.refl [] w).alloc (.map #[] 0)
  go_enter Tryd.func31, Tryd.ntmps31
  go_wp2_with fail
  clear hmm
  have HM0 := Lib.hid (And.intro m0 F0)
  clear m0 F0
  generalize (World.alloc w (.map #[] 0)) = w1 at *
  generalize hbm : w.heap.size = bm at *
  have HBM := Lib.hid hbm
  clear hbm
  go_loopw [11] (Fo9 w bm gs) (fun x _ => gs.length - (intOf x).toNat)
  case atStart => exact ⟨0, by omega, rfl, by rw [List.take_zero, spotG_none]; exact HM0.out.1, HM0.out.2⟩
  case round =>
    obtain ⟨i, hi, rfl, hP, F⟩ := hrel
    by_cases hlt : i < gs.length
    · have HI2 := Lib.hid (show i + 1 ≤ gs.length ∧ gs.length - (i + 1) < gs.length - i by omega)
      have hltz : (i : Int) < (gs.length : Int) := by omega
      obtain ⟨g, hgi⟩ : ∃ g, gs[i]? = some g := ⟨gs[i], List.getElem?_eq_getElem _⟩
      obtain ⟨s, hs1, hs2, hs3⟩ := (hg.up F).one hgi
      obtain ⟨gb, ob, rfl, c0⟩ := sv_cell (h.up F) hs1
      rw [hs2] at c0
      have hs3' : Sq fT wr (.slice s.a g.length s.c) g := by rw [← hs2]; exact hs3
      have HGL := Lib.hid (show (gs.take i).flatten.length + g.length ≤ 1000 from by
        have h1 := flat_take_le gs (i + 1)
        rw [spotG_take hgi, List.flatten_append, List.length_append, List.flatten_cons, List.flatten_nil, List.append_nil] at h1
        exact Nat.le_trans h1 hl2)
      have hgl : g.length ≤ 1000 := by have := HGL.out; omega
      have HGI := Lib.hid hgi
      have HIL := Lib.hid (show i ≤ 1000 by omega)
      clear hs3 hgi
      go_wp2_with fail
      have HP := Lib.hid hP
      have HF := Lib.hid F
      clear hP F
      have hs3 := hs3'
      clear hs3'
      obtain ⟨ax, cx, es, hcs, hms, -⟩ := id hs3
      simp only [Value.slice.injEq] at es
      obtain ⟨rfl, -, rfl⟩ := es
      have HS3 := Lib.hid (fun (W : World) (F : Fr [] w W) => (show Sq fT W (.slice s.a g.length s.c) g by
        obtain ⟨s', e1, e2, e3⟩ := (hg.up F).one HGI.out
        rw [hs1] at e1
        obtain rfl := Option.some.inj e1
        rw [← e2]; exact e3))
      clear hs3
      generalize s.a = ax at *
      generalize s.c = cx at *
      go_loopw [18] (Fn9 w bm gs i g) (fun x _ => g.length - (intOf x).toNat)
      case atStart => exact ⟨0, by omega, rfl, by simpa [spotG_nil] using HP.out, HF.out⟩
      case round =>
        obtain ⟨j, hj, rfl, hP, F⟩ := hrel
        by_cases hlj : j < g.length
        · have HJ2 := Lib.hid (show j + 1 ≤ g.length ∧ g.length - (j + 1) < g.length - j by omega)
          have hljz : (j : Int) < (g.length : Int) := by omega
          have HJL := Lib.hid (show j ≤ 1000 by have := HGL.out; omega)
          obtain ⟨x, hx⟩ : ∃ x, g[j]? = some x := ⟨g[j], List.getElem?_eq_getElem _⟩
          obtain ⟨gx, ox, rfl, x0, x1, x2⟩ := it_cells (HS3.out _ F) hx
          have F5 := (Fr.refl [] wr).alloc (.cells #[.int .i64 x.k, .int .i64 x.v, .int .i64 x.d] 43)
          have o5 := Lib.hid (Ob.new wr 43 #[.int .i64 x.k, .int .i64 x.v, .int .i64 x.d])
          have HP5 := Lib.hid (hP.up F5)
          have HF5 := Lib.hid (F.trans F5)
          have HT5 := Lib.hid (tab_up t (F.trans F5))
          have HSP := Lib.hid (show putP (spotG (gs.take i ++ [g.take j])) (i : Int) (j : Int) (ceV x) = spotG (gs.take i ++ [g.take (j + 1)]) from by
            have e := spotG_put (gs.take i) (g.take j) x
            rw [List.length_take_of_le hi, List.length_take_of_le hj] at e
            rw [e, List.take_add_one, hx]; rfl)
          clear hP F F5 hx
          go_wp2_with fail
          generalize hw5 : (wr.alloc (.cells #[.int .i64 x.k, .int .i64 x.v, .int .i64 x.d] 43)) = w5 at *
          clear hw5 x0 x1 x2
          generalize wr.heap.size = q at *
          refine wp_region_free (by kernel_rfl) ?_
          refine any_envL [] w5 #[true, true, true, true, true, true, true, true, true, true, true, true, false] 12 1 rfl ?_
          refine envL_pass [true, true, true, true, true, true, true, true, true, true, true, true, false] 0 (n := 38) (listed' := #[true, true, true, true, true, true, true, true, true, true, true, true, false]) rfl (by kernel_rfl) (by kernel_rfl) (by kernel_rfl) (by kernel_rfl) rfl (by kernel_rfl) (fun _ _ d _ _ h => by cases d <;> exact h) ((Fr.refl _ _).drew) ?_
          apply Exists.intro
          refine ⟨fun wf Ff => ?_, ?_⟩
          · have of := o5.out.up Ff
            have j0 := In.cell (of.cell (i := 0) rfl)
            have j1 := In.cell (of.cell (i := 1) rfl)
            have j2 := In.cell (of.cell (i := 2) rfl)
            have tf := tab_up HT5.out Ff
            clear of
            simp only [sel]
            repeat (go_big_quiet_step ((go_at_call 43; exact Calls.in_ (state9 _ _ (tab_up tf (In.fr _))))))
            exact wpQuiet_nil rfl
          refine envL_tail (k := 12) rfl (by kernel_rfl) (fun w6 F6 => ?_)
          have F6' := ((Fr.refl [] w5).drew).trans F6
          obtain ⟨w7, e7, P7, F7⟩ := (HP5.out.up F6').put (lt_max1 (by have := HGL.out; omega)) (wp_sm HIL.out HJL.out) (ceV x)
          unfold sp ceV at e7
          have HG := Lib.hid (And.intro P7 ((HF5.out.trans F6').own F7 (by have := HBM.out; simp; omega)))
          clear P7 F7 F6 F6'
          go_wp2_with fail
          go_roundw
          case rel => exact ⟨j + 1, HJ2.out.1, by simp, by rw [← HSP.out]; exact HG.out.1, HG.out.2⟩
          case measure => exact meas rfl HJ2.out.2
        · have hljz : ¬ (j : Int) < (g.length : Int) := by omega
          obtain rfl : j = g.length := by omega
          have e := spotG_take HGI.out
          rw [List.take_length, ← e, show (gs.take i).flatten.length + g.length = (gs.take (i + 1)).flatten.length by rw [e, List.flatten_append]; simp] at hP
          have HP2 := Lib.hid hP
          have HF2 := Lib.hid F
          clear hP F e
          go_wp2_with fail
          go_roundw
          case rel => exact ⟨i + 1, HI2.out.1, by simp, HP2.out, HF2.out⟩
          case measure => exact meas rfl HI2.out.2
    · obtain rfl : i = gs.length := by omega
      rw [List.take_length] at hP
      have HP := Lib.hid hP
      have HF := Lib.hid F
      clear hP F
      go_wp2_with fail
      go_ret
      exact ⟨⟨_, by rw [HBM.out]; rfl, by rw [HBM.out]; exact HP.out⟩, HF.out⟩
end Go.Proofs.YtdnilnjlbobcmaaDoor.Gp
/- Package group's link; chunks in a row of their own. -/

namespace Go.Proofs.YtdnilnjlbobcmaaDoor.Gp
open Go.RowKit Go.Maps Go.Proofs.YtdnilnjlbobcmaaDoor.Ar Go.Proofs.YtdnilnjlbobcmaaDoor.Mx Go.Proofs.YtdnilnjlbobcmaaDoor.Vw
set_option linter.unusedVariables false
set_option linter.unusedSimpArgs false
def linkL (after : Int) : List Chs → List Chs
  | [] => []
  | x :: r => x.next (nextW ((r.head?.map fun y => y.h.at_).getD after) false) :: linkL after r
theorem link_len (after : Int) : ∀ xs, (linkL after xs).length = xs.length
  | [] => rfl
  | x :: r => by unfold linkL; rw [List.length_cons, link_len after r]; rfl
theorem link_at (after : Int) : ∀ {xs : List Chs} {i : Nat} {x : Chs}, xs[i]? = some x → (linkL after xs)[i]? = some (x.next (nextW ((xs[i + 1]?.map fun y => y.h.at_).getD after) false))
  | [], i, x, h => by simp at h
  | y :: r, 0, x, h => by
    obtain rfl : y = x := by simpa using h
    unfold linkL
    rw [List.getElem?_cons_zero, List.getElem?_cons_succ, List.head?_eq_getElem?]
  | y :: r, i + 1, x, h => by
    unfold linkL
    rw [List.getElem?_cons_succ, link_at after (by simpa using h), List.getElem?_cons_succ]
/-- The first k as they were, the others linked. -/
def midL (after : Int) (xs : List Chs) (k : Nat) : List Chs := xs.take k ++ (linkL after xs).drop k
theorem mid_at (after : Int) {xs : List Chs} {k : Nat} {x : Chs} (h : xs[k]? = some x) : (midL after xs (k + 1))[k]? = some x := by
  have hl := (List.getElem?_eq_some_iff.1 h).1
  unfold midL
  rw [List.getElem?_append_left (by rw [List.length_take]; omega), List.getElem?_take_of_lt (by omega), h]
theorem mid_set (after : Int) {xs : List Chs} {k : Nat} {x y : Chs} (h : xs[k]? = some x) (hy : (linkL after xs)[k]? = some y) : (midL after xs (k + 1)).set k y = midL after xs k := by
  have hl := (List.getElem?_eq_some_iff.1 h).1
  have hl2 := (List.getElem?_eq_some_iff.1 hy).1
  have hk : (xs.take k).length = k := List.length_take_of_le (by omega)
  unfold midL
  have e1 : xs.take (k + 1) = xs.take k ++ [x] := by rw [List.take_add_one, h]; rfl
  have e2 : (linkL after xs).drop k = y :: (linkL after xs).drop (k + 1) := by rw [List.drop_eq_getElem_cons hl2, (List.getElem?_eq_some_iff.1 hy).2]
  rw [e1, e2, List.append_assoc, List.set_append_right _ _ (by omega), hk, Nat.sub_self]
  rfl
theorem mid_len (after : Int) (xs : List Chs) (k : Nat) (h : k ≤ xs.length) : (midL after xs k).length = xs.length := by
  unfold midL; rw [List.length_append, List.length_take, List.length_drop, link_len]; omega
theorem mid_at2 (after : Int) {xs : List Chs} {k : Nat} {y : Chs} (hy : (linkL after xs)[k]? = some y) : (midL after xs k)[k]? = some y := by
  have hl2 := (List.getElem?_eq_some_iff.1 hy).1
  rw [link_len] at hl2
  have hk : (xs.take k).length = k := List.length_take_of_le (by omega)
  unfold midL
  rw [List.getElem?_append_right (by omega), hk, Nat.sub_self, List.getElem?_drop, Nat.add_zero, hy]
def Lk9 (w : World) (after : Int) (b : Nat) (xs : List Chs) (u x : Value) (wr : World) : Prop := ∃ k : Nat, k ≤ xs.length ∧ x = .int .i64 ((k : Int) - 1) ∧ u = .int .i64 ((xs[k]?.map fun y => y.h.at_).getD after) ∧
  Ob wr b 40 ((midL after xs k).flatMap fH).toArray ∧ Fr [b] w wr
set_option maxRecDepth 100000 in
set_option maxHeartbeats 6400000 in
theorem link_any (after : Int) (xs : List Chs) (b : Nat) (w : World) (t : Word.Tab w) (hb : 0 ≠ b) (hl : xs.length ≤ 1000) (o : Ob w b 40 (xs.flatMap fH).toArray) :
    Calls Tryd.prog 33 #[.slice (some ⟨b, 0, none⟩) xs.length xs.length, .int .i64 after] w fun e w' => e = .returned (.tuple #[]) ∧ Ob w' b 40 ((linkL after xs).flatMap fH).toArray ∧ Fr [b] w w' := by
  have HWL : wrap64 ((xs.length : Int) - 1) = (xs.length : Int) - 1 := w64 (by omega) (by omega)
  go_enter Tryd.func33, Tryd.ntmps33
  go_wp2_with fail
  go_loopw [4, 5] (Lk9 w after b xs) (fun _ x _ => (intOf x + 1).toNat)
  case atStart =>
    refine ⟨xs.length, Nat.le_refl _, ?_, by simp, ?_, Fr.refl _ _⟩
    · first | rfl | rw [HWL]
    · have e : midL after xs xs.length = xs := by unfold midL; rw [List.take_length, List.drop_eq_nil_of_le (by rw [link_len]; exact Nat.le_refl _), List.append_nil]
      rw [e]; exact o
  case round =>
    obtain ⟨k, hk, rfl, rfl, ok, F⟩ := hrel
    rcases k with _ | k
    · have hneg : ¬ ((((0 : Nat) : Int)) - 1 ≥ 0) := by omega
      have e : midL after xs 0 = linkL after xs := rfl
      rw [e] at ok
      have HO := Lib.hid (And.intro ok F)
      clear ok F o
      go_wp2_with fail
      go_end0
      exact ⟨rfl, HO.out.1, HO.out.2⟩
    · obtain ⟨x, hx⟩ : ∃ x, xs[k]? = some x := ⟨xs[k], List.getElem?_eq_getElem _⟩
      rw [show (((k + 1 : Nat) : Int) - 1) = (k : Int) by omega]
      have hk0 : (k : Int) ≥ 0 := by omega
      have hkl : k < xs.length := by omega
      have hklz : (k : Int) < (xs.length : Int) := by omega
      have HT := Lib.hid (tab_kept t F (by simpa using hb))
      have hat := mid_at after hx
      have hln := link_at after hx
      generalize ((xs[k + 1]?.map fun y => y.h.at_).getD after) = bh at *
      have HSG := Lib.hid (fun (W : World) (ow : Ob W b 40 ((midL after xs (k + 1)).flatMap fH).toArray) => (show Ob (W.setCell ⟨b, k * 9 + 3, none⟩ (.int .i64 (nextW bh false))) b 40 ((midL after xs k).flatMap fH).toArray by
        have := ow.seg fH_lays (i := k) (j := 3) (x' := x.next (nextW bh false)) (u := .int .i64 (nextW bh false)) hat (by decide) rfl
        rw [mid_set after hx hln] at this
        exact this))
      have HC := Lib.hid (fun (W : World) (ow : Ob W b 40 ((midL after xs k).flatMap fH).toArray) => (show W.cell? ⟨b, k * 9, none⟩ = some (.int .i64 x.h.at_) from ow.segCell fH_lays (i := k) (j := 0) (mid_at2 after hln) rfl))
      have HOK := Lib.hid ok
      have HF := Lib.hid F
      have HXX := Lib.hid hx
      clear ok F o hat hln hx
      go_wp2_with fail
      refine (next9 bh false wr HT.out).mono ?_
      rintro e w2 ⟨rfl, F2⟩
      have o2 := HOK.out.up F2
      have q3 : ∃ v0, w2.cell? ⟨b, k * 9 + 3, none⟩ = some v0 := ⟨_, o2.segCell fH_lays (i := k) (j := 3) (mid_at after HXX.out) rfl⟩
      obtain ⟨v3, q3⟩ := q3
      have z := o2.frozen
      have o3 := HSG.out w2 o2
      have c3 := HC.out _ o3
      have HG := Lib.hid (And.intro o3 (show Fr [b] wr (w2.setCell ⟨b, k * 9 + 3, none⟩ (.int .i64 (nextW bh false))) from (F2.mono (by simp)).trans (Fr.setCell _ (List.mem_singleton.2 rfl))))
      have HO2 := Lib.hid o2
      clear o3 F2 o2
      go_wp2_with fail
      exact ⟨⟨k, by omega, rfl, by rw [HXX.out]; rfl, HG.out.1, HF.out.trans HG.out.2⟩, by simp [intOf]⟩
end Go.Proofs.YtdnilnjlbobcmaaDoor.Gp
/- Package group's Chunks. -/

namespace Go.Proofs.YtdnilnjlbobcmaaDoor.Gp
open Go.RowKit Go.Maps Go.Proofs.YtdnilnjlbobcmaaDoor.Ar Go.Proofs.YtdnilnjlbobcmaaDoor.Mx Go.Proofs.YtdnilnjlbobcmaaDoor.Vw
set_option linter.unusedVariables false
set_option linter.unusedSimpArgs false
theorem ceV_get (o : Option It) : (o.map ceV).getD (.agg #[.int .i64 0, .int .i64 0, .int .i64 0]) = .agg #[.int .i64 (ceO o).s, .int .i64 (ceO o).k, .int .i64 (ceO o).d] := by
  cases o <;> rfl
/-- A chunk ahead of its linking. -/
def preH (at_ sz : Int) (ms : List Int) (i : Nat) (g : List It) : Hd := ⟨at_ + sz * (i : Int), ms.getD i 0, (g.length : Int), 0, 0, 0, 0, 0⟩
/-- The chunks that are made. -/
def Done (w0 w : World) (cap : Nat) (at_ sz : Int) (ms : List Int) (gs : List (List It)) (xs : List Chs) : Prop := ∀ (i : Nat) (x : Chs) (g : List It), xs[i]? = some x → gs[i]? = some g →
  x.h = preH at_ sz ms i g ∧ ∃ q, x.s = ⟨some ⟨q, 0, none⟩, cap, cap⟩ ∧ w0.heap.size ≤ q ∧ Ob w q 54 ((cesOf cap g).flatMap fC).toArray
theorem Done.kept {S : List Nat} {w0 w w' : World} {cap : Nat} {at_ sz : Int} {ms : List Int} {gs : List (List It)} {xs : List Chs} (h : Done w0 w cap at_ sz ms gs xs) (f : Fr S w w') (hS : ∀ b T cs, b ∈ S → Ob w b T cs → T ≠ 54) : Done w0 w' cap at_ sz ms gs xs := fun i x g e1 e2 => by
  obtain ⟨h1, q, h2, h3, h4⟩ := h i x g e1 e2
  exact ⟨h1, q, h2, h3, h4.kept f (fun hq => hS q _ _ hq h4 rfl)⟩
theorem Done.up {w0 w w' : World} {cap : Nat} {at_ sz : Int} {ms : List Int} {gs : List (List It)} {xs : List Chs} (h : Done w0 w cap at_ sz ms gs xs) (f : Fr [] w w') : Done w0 w' cap at_ sz ms gs xs := h.kept f (by simp)
theorem chs_of {w0 w w' : World} {b cap : Nat} {at_ after : Int} {ms : List Int} {gs : List (List It)} {done : List Chs} {c : Cf} (hc : c.c = (cap : Int)) (hcap : cap ≤ 16) (h0 : 0 ≤ at_) (h1 : at_ ≤ 1000000) (hl : gs.length ≤ 1000) (hd : done.length = gs.length) (hm : ms.length = gs.length)
    (hD : Done w0 w cap at_ (7 + 3 * (cap : Int)) ms gs done) {ds : List Chs} (o : Ob w b 40 (ds.flatMap fH).toArray) (F : Fr [b] w w') : ChsIs w' (linkL after done) (chunksF c at_ after gs ms) cap := by
  have hsz : sizeP c = 7 + 3 * (cap : Int) := by unfold sizeP; rw [hc]
  refine ⟨by rw [link_len, chunksF_length, hd], fun i x n e1 e2 => ?_⟩
  have hi : i < gs.length := by have := (List.getElem?_eq_some_iff.1 e2).1; rw [chunksF_length] at this; exact this
  obtain ⟨g, hg⟩ : ∃ g, gs[i]? = some g := ⟨gs[i], List.getElem?_eq_getElem _⟩
  obtain ⟨m, hmi⟩ : ∃ m, ms[i]? = some m := ⟨ms[i]'(by omega), List.getElem?_eq_getElem _⟩
  obtain ⟨y, hy⟩ : ∃ y, done[i]? = some y := ⟨done[i]'(by omega), List.getElem?_eq_getElem _⟩
  obtain ⟨d1, q, d2, d3, d4⟩ := hD i y g hy hg
  have hmul : sizeP c * (gs.length : Int) ≤ 55 * 1000 := by
    rw [hsz]
    exact Int.mul_le_mul (by omega) (by omega) (by omega) (by omega)
  have hn := chunksF_at (c := c) after (by rw [hsz]; omega) gs at_ ms i g m h0 (by omega) hg hmi
  rw [hn] at e2
  obtain rfl := Option.some.inj e2
  rw [link_at after hy] at e1
  obtain rfl := Option.some.inj e1
  refine ⟨?_, ?_⟩
  · unfold Chs.next hdOf
    simp only [d1, preH]
    rw [List.getD_eq_getElem?_getD, hmi, hsz]
    by_cases hlast : i + 1 = gs.length
    · rw [if_pos hlast, List.getElem?_eq_none (by omega)]; rfl
    · obtain ⟨g2, hg2⟩ : ∃ g, gs[i + 1]? = some g := ⟨gs[i + 1]'(by omega), List.getElem?_eq_getElem _⟩
      obtain ⟨y2, hy2⟩ : ∃ y, done[i + 1]? = some y := ⟨done[i + 1]'(by omega), List.getElem?_eq_getElem _⟩
      obtain ⟨k1, -⟩ := hD (i + 1) y2 g2 hy2 hg2
      rw [if_neg hlast, hy2]
      simp only [Option.map_some, Option.getD_some, k1, preH]
      rw [show (((i + 1 : Nat) : Int)) = (i : Int) + 1 by omega]
  · have h5 := (d4.kept F (by simpa using d4.ne o (by decide))).sq fC_lays (by rw [ces_len]; omega)
    rw [ces_len] at h5
    show Sq fC w' y.s.v (cesOf cap g)
    rw [d2]; exact h5
/-- Where the outer, the inner loop stand. -/
def Co9 (w0 : World) (b cap : Nat) (at_ sz : Int) (ms : List Int) (gs : List (List It)) (x : Value) (wr : World) : Prop := ∃ (i : Nat) (done : List Chs), i ≤ gs.length ∧ x = .int .i64 (i : Nat) ∧ done.length = i ∧
  Ob wr b 40 ((done ++ List.replicate (gs.length - i) zCh).flatMap fH).toArray ∧ Done w0 wr cap at_ sz ms gs done ∧ Fr [b] w0 wr
def Ci9 (w : World) (q cap : Nat) (ces : List Ce) (x : Value) (wr : World) : Prop := ∃ j : Nat, j ≤ cap ∧ x = .int .i64 (j : Nat) ∧ Ob wr q 54 ((fillL ces zCe j).flatMap fC).toArray ∧ Fr [q] w wr
set_option maxRecDepth 100000 in
set_option maxHeartbeats 12800000 in
theorem chunks9_any (c : Cf) (cap : Nat) (at_ after least : Int) (gs : List (List It)) (ss : List Sv) (u : Value) (w : World) (t : Word.Tab w) (hcap : c.c = (cap : Int)) (hok : Pl.code c.t c.c c.wd c.v = 0) (h0 : 0 ≤ at_) (h1 : at_ ≤ 1000000) (hl : gs.length ≤ 1000) (hl2 : gs.flatten.length ≤ 1000) (h : Sq fS w u ss) (hg : Gs w ss gs) :
    Calls Tryd.prog 17 #[c.val, .int .i64 at_, .int .i64 after, .int .i64 least, u] w fun e w' => (∃ r xs, e = .returned r ∧ Sq fH w' r xs ∧ ChsIs w' xs (chunksT c at_ after least gs) cap) ∧ Fr [] w w' := by
  obtain ⟨ct, cc, cwd, cvs⟩ := c
  obtain rfl : cc = (cap : Int) := hcap
  obtain ⟨av, cv, rfl, hcv, hmv, -⟩ := id h
  have hsl := hg.1
  rw [hsl] at h hcv ⊢
  have hfm : Pl.form ct cap cwd cvs = true := by
    simp only at hok
    unfold Pl.code at hok
    by_cases hf : Pl.form ct cap cwd cvs = true
    · exact hf
    · rw [if_neg hf] at hok; omega
  rw [Pl.form_iff] at hfm
  have hc1 : 1 ≤ cap := by omega
  have hc16 : cap ≤ 16 := by omega
  have F0 := (Fr.refl [] w).alloc (.cells #[.int .i64 ct, .int .i64 (cap : Int), .int .i64 cwd, .int .i64 cvs] 24)
  have oc := Ob.new w 24 #[.int .i64 ct, .int .i64 (cap : Int), .int .i64 cwd, .int .i64 cvs]
  obtain ⟨c0, c1, c2, c3⟩ := Pl.cells4 oc
  have HH := Lib.hid (And.intro h hg)
  have HCN := Lib.hid (And.intro hok hfm)
  have HIS := Lib.hid (fun W => Pl.is_any ct cap cwd cvs W)
  rw [show Pl.code ct cap cwd cvs = 0 from hok] at HIS
  clear h hg hok hfm hsl
  unfold Cf.val
  go_enter Tryd.func17, Tryd.ntmps17
  go_wp2_with fail
  refine (HIS.out _).mono ?_
  rintro e w1 ⟨rfl, F1⟩
  rw [show Pl.errv 0 = .nilIface from rfl]
  have FW1 := F0.trans F1
  have oc1 := oc.up F1
  obtain ⟨d0, d1, d2, d3⟩ := Pl.cells4 oc1
  have HOC := Lib.hid oc1
  clear F0 oc c0 c1 c2 c3 F1 oc1 HIS
  go_wp2_with fail
  refine (allFit_any cap gs ss _ w1 hl (HH.out.1.up FW1) (HH.out.2.up FW1)).mono ?_
  rintro e w2 ⟨rfl, F2⟩
  have FW2 := FW1.trans F2
  have oc2 := HOC.out.up F2
  have hct : chunksT ⟨ct, cap, cwd, cvs⟩ at_ after least gs = if (gs.all fun g => decide ((g.length : Int) ≤ (cap : Int))) = true then chunksF ⟨ct, cap, cwd, cvs⟩ at_ after gs (minsT least gs) else [] := rfl
  generalize hall : (gs.all fun g => decide ((g.length : Int) ≤ (cap : Int))) = all at *
  obtain ⟨d0, d1, d2, d3⟩ := Pl.cells4 oc2
  have HCT := Lib.hid hct
  have HAL := Lib.hid hall
  have HO2 := Lib.hid oc2
  clear hct hall FW1 F2 oc2 HOC
  cases all with
  | false =>
    go_wp2_with fail
    go_ret
    have := HCT.out
    simp only [Bool.false_eq_true, if_false] at this
    exact ⟨⟨_, [], rfl, Sq.nil _, by rw [this]; exact ⟨rfl, fun i x n e => by simp at e⟩⟩, FW2⟩
  | true =>
    have hfit : ∀ g, g ∈ gs → g.length ≤ cap := fun g hg => by
      have := List.all_eq_true.1 HAL.out g hg
      have := of_decide_eq_true this
      omega
    have HFT := Lib.hid hfit
    clear hfit
    go_wp2_with fail
    refine (mins9_any least gs ss _ w2 hl (HH.out.1.up FW2) (HH.out.2.up FW2)).mono ?_
    rintro e w3 ⟨⟨rfl, o3⟩, F3⟩
    have FW3 := FW2.trans F3
    have HO3 := Lib.hid (And.intro o3 (HO2.out.up F3))
    generalize w2.heap.size = bms at *
    clear o3 F3 FW2 HO2 d0 d1 d2 d3
    go_wp2_with fail
    refine (filled_any gs ss _ w3 (tab_up t FW3) hl hl2 (HH.out.1.up FW3) (HH.out.2.up FW3)).mono ?_
    rintro e w4 ⟨⟨nP, rfl, P4⟩, F4⟩
    have FW4 := FW3.trans F4
    have HO4 := Lib.hid (And.intro (HO3.out.1.up F4) (HO3.out.2.up F4))
    generalize w3.heap.size = bmp at *
    clear F4 FW3 HO3
    go_wp2_with (at_make; refine wpList_mk fH_lays rfl _ _ 35 rfl Tryd.underlying35 chI zCh rfl gs.length rfl rfl (by omega) (by decide) ?_; intro w5 o5 F5)
    have FW5 := FW4.trans F5
    have hbw : w.heap.size ≤ w4.heap.size := FW4.size
    have HO5 := Lib.hid (And.intro (HO4.out.1.up F5) (And.intro (HO4.out.2.up F5) (P4.up F5)))
    generalize w4.heap.size = b at *
    have hms := minsT_length least gs
    have HMA := Lib.hid (fun i g => @minsT_at least gs i g)
    clear F5 FW4 HO4 P4
    generalize hmsd : minsT least gs = ms at *
    have HML := Lib.hid (And.intro hms hmsd)
    clear hms hmsd
    have hbt := Lib.hid (tab_ne t hbw)
    have HBN := Lib.hid (show bms ≠ b ∧ w.heap.size ≠ b ∧ bmp ≠ b from ⟨HO5.out.1.ne o5 (by decide), HO5.out.2.1.ne o5 (by decide), fun e => by obtain ⟨es, ck, hm⟩ := HO5.out.2.2.is_map; rw [e] at hm; unfold Ob at o5; rw [hm] at o5; cases o5⟩)
    have HFW := Lib.hid (fun (wr : World) (F : Fr [b] w5 wr) => (FW5.own F (fun g hg => by simp at hg; omega) : Fr [] w wr))
    go_loopw [37] (Co9 w5 b cap at_ (7 + 3 * (cap : Int)) ms gs) (fun x _ => gs.length - (intOf x).toNat)
    case atStart => exact ⟨0, [], by omega, rfl, rfl, by simpa using o5, fun i x g e1 => by simp at e1, Fr.refl _ _⟩
    case round =>
      obtain ⟨i, done, hi, rfl, hdl, o, hD, F⟩ := hrel
      clear o5
      by_cases hlt : i < gs.length
      · have HI2 := Lib.hid (show i + 1 ≤ gs.length ∧ gs.length - (i + 1) < gs.length - i by omega)
        have hltz : (i : Int) < (gs.length : Int) := by omega
        have hi0 : (0 : Int) ≤ (i : Int) := by omega
        obtain ⟨g, hgi⟩ : ∃ g, gs[i]? = some g := ⟨gs[i], List.getElem?_eq_getElem _⟩
        obtain ⟨m, hmi⟩ : ∃ m, ms[i]? = some m := ⟨_, HMA.out i g hgi⟩
        have FW := HFW.out wr F
        obtain ⟨s, hs1, hs2, -⟩ := (HH.out.2.up FW).one hgi
        obtain ⟨gb, ob, rfl, cc0⟩ := sv_cell (HH.out.1.up FW) hs1
        rw [hs2] at cc0
        have om := HO5.out.1.kept F (by simp; exact HBN.out.1)
        have ocf := HO5.out.2.1.kept F (by simp; exact HBN.out.2.1)
        have hpm := HO5.out.2.2.kept F (by simp; exact HBN.out.2.2)
        have HW := Lib.hid (And.intro om (And.intro ocf hpm))
        have HD := Lib.hid (And.intro hD o)
        have HGI := Lib.hid (And.intro hgi hmi)
        have hgl : g.length ≤ cap := HFT.out g (List.mem_of_getElem? hgi)
        have HF := Lib.hid F
        have hml : i < ms.length := by rw [HML.out.1]; exact hlt
        have hmlz : (i : Int) < (ms.length : Int) := by omega
        have hmsl : ms.length = gs.length := HML.out.1
        have HMSL := Lib.hid hmsl
        clear om ocf hpm hD o hgi hmi F FW hmsl hml hmlz
        go_wp2_with fail
        have HDL := Lib.hid hdl
        clear hdl
        refine wp_region_free (by kernel_rfl) ?_
        refine any_envL [] wr #[true, true, true, true, true, true, true, true, true, true, true, true, true, true, true, true, true, true, false, false] 18 2 rfl ?_
        refine envL_pass [true, true, true, true, true, true, true, true, true, true, true, true, true, true, true, true, false, false, false, false] 2 (n := 88) (listed' := #[true, true, true, true, true, true, true, true, true, true, true, true, true, true, true, true, false, false, false, false]) rfl (by kernel_rfl) (by kernel_rfl) (by kernel_rfl) (by kernel_rfl) rfl (by kernel_rfl) (fun _ _ d _ _ h => by cases d <;> exact h) ((Fr.refl _ _).drew) ?_
        apply Exists.intro
        refine ⟨fun wf Ff => ?_, ?_⟩
        · obtain ⟨d0, d1, d2, d3⟩ := Pl.cells4 (HW.out.2.1.up Ff)
          have j0 := In.cell d0
          have j1 := In.cell d1
          have j2 := In.cell d2
          have j3 := In.cell d3
          have jm := In.cell (show wf.cell? ⟨bms, i, none⟩ = some (.int .i64 m) by simpa using (HW.out.1.up Ff).segCell fI_lays (i := i) (j := 0) HGI.out.2 rfl)
          clear d0 d1 d2 d3
          simp only [sel]
          repeat (go_big_quiet_step ((go_at_call 32; exact Calls.in_ (Pl.size_any _ _ _ _ (by omega) (by omega) _))))
          exact wpQuiet_nil rfl
        refine envL_one 16 (by kernel_rfl) rfl rfl (fun w6 F6 => ?_)
        have G := ((Fr.refl [] wr).drew).trans F6
        clear F6
        go_wp2_with (at_make; refine wpList_mk fC_lays rfl _ _ 38 rfl Tryd.underlying38 ceI zCe rfl cap rfl rfl (by omega) (by decide) ?_; intro w7 o7 F7)
        have HQ := Lib.hid (Nat.le_trans HF.out.size G.size)
        have HQ2 := Lib.hid G.size
        generalize w6.heap.size = q at *
        replace G := G.trans F7
        clear F7
        refine nx_normal ⟨G, ?_⟩
        refine envL_one 17 (by kernel_rfl) rfl rfl (fun w8 F8 => ?_)
        have o8 := o7.up F8
        replace G := G.trans F8
        clear F8 o7
        go_wp2_with fail
        refine nx_normal ⟨G, ?_⟩
        refine envL_tail (k := 18) rfl (by kernel_rfl) (fun w9 F9 => ?_)
        have o9 := o8.up F9
        replace G := G.trans F9
        clear F9 o8
        obtain rfl : done.length = i := HDL.out
        have HA := Lib.hid (at_wrap h0 h1 (show (0 : Int) ≤ (done.length : Int) by omega) (show (done.length : Int) ≤ 1000 by omega) (show (0 : Int) ≤ (cap : Int) by omega) (show (cap : Int) ≤ 16 by omega))
        generalize wrap64 (at_ + wrap64 ((done.length : Int) * (7 + 3 * (cap : Int)))) = A at *
        generalize wrap64 ((done.length : Int) * (7 + 3 * (cap : Int))) = A0 at *
        have ob9 := HD.out.2.up G
        have hza := row_nextAt (z := zCh) hlt
        have q0 : w9.cell? ⟨b, done.length * 9, none⟩ = some (.int .i64 0) := ob9.segCell fH_lays (i := done.length) (j := 0) hza rfl
        have q1 : w9.cell? ⟨b, done.length * 9 + 1, none⟩ = some (.int .i64 0) := ob9.segCell fH_lays (i := done.length) (j := 1) hza rfl
        have q2 : w9.cell? ⟨b, done.length * 9 + 2, none⟩ = some (.int .i64 0) := ob9.segCell fH_lays (i := done.length) (j := 2) hza rfl
        have q3 : w9.cell? ⟨b, done.length * 9 + 3, none⟩ = some (.int .i64 0) := ob9.segCell fH_lays (i := done.length) (j := 3) hza rfl
        have q4 : w9.cell? ⟨b, done.length * 9 + 4, none⟩ = some (.int .i64 0) := ob9.segCell fH_lays (i := done.length) (j := 4) hza rfl
        have q5 : w9.cell? ⟨b, done.length * 9 + 5, none⟩ = some (.int .i64 0) := ob9.segCell fH_lays (i := done.length) (j := 5) hza rfl
        have q6 : w9.cell? ⟨b, done.length * 9 + 6, none⟩ = some (.int .i64 0) := ob9.segCell fH_lays (i := done.length) (j := 6) hza rfl
        have q7 : w9.cell? ⟨b, done.length * 9 + 7, none⟩ = some (.int .i64 0) := ob9.segCell fH_lays (i := done.length) (j := 7) hza rfl
        have q8 : w9.cell? ⟨b, done.length * 9 + 8, none⟩ = some (.slice none 0 0) := ob9.segCell fH_lays (i := done.length) (j := 8) hza rfl
        have zf := ob9.frozen
        have hqb : b ≠ q := fun e => by have := HD.out.2.lt; have h2 := HQ.out; have h3 := HF.out.size; rw [e] at this; exact absurd ob9 (by unfold Ob; rw [e]; rw [show w9.heap[q]? = _ from o9]; simp)
        have S9 := ob_seg9 ob9 hza ⟨⟨A, m, g.length, 0, 0, 0, 0, 0⟩, ⟨some ⟨q, 0, none⟩, cap, cap⟩⟩
        rw [row_next hlt] at S9
        have S9c := S9.segCell fH_lays (i := done.length) (j := 8) (x := ⟨⟨A, m, g.length, 0, 0, 0, 0, 0⟩, ⟨some ⟨q, 0, none⟩, cap, cap⟩⟩) (by rw [List.append_assoc, List.getElem?_append_right (Nat.le_refl _), Nat.sub_self]; rfl) rfl
        unfold Sv.v at S9 S9c
        have HG := Lib.hid (show Fr [b] w5 _ from (HF.out.then G).trans (fr9 (w := w9) (b := b) (done.length * 9) (done.length * 9 + 1) (done.length * 9 + 2) (done.length * 9 + 3) (done.length * 9 + 4) (done.length * 9 + 5) (done.length * 9 + 6) (done.length * 9 + 7) (done.length * 9 + 8) (.int .i64 A) (.int .i64 m) (.int .i64 g.length) (.int .i64 0) (.int .i64 0) (.int .i64 0) (.int .i64 0) (.int .i64 0) (.slice (some ⟨q, 0, none⟩) cap cap)))
        have HG2 := Lib.hid (fr9 (w := w9) (b := b) (done.length * 9) (done.length * 9 + 1) (done.length * 9 + 2) (done.length * 9 + 3) (done.length * 9 + 4) (done.length * 9 + 5) (done.length * 9 + 6) (done.length * 9 + 7) (done.length * 9 + 8) (.int .i64 A) (.int .i64 m) (.int .i64 g.length) (.int .i64 0) (.int .i64 0) (.int .i64 0) (.int .i64 0) (.int .i64 0) (.slice (some ⟨q, 0, none⟩) cap cap))
        have HS9 := Lib.hid S9
        have HP9 := Lib.hid (And.intro (HD.out.1.up G) (And.intro o9 (HW.out.2.2.up G)))
        have HQB := Lib.hid hqb
        have HOB := Lib.hid ob9
        clear S9 ob9 hza G o9 hqb
        go_wp2_with fail
        generalize hwt : (((((((((w9.setCell ⟨b, done.length * 9, none⟩ (.int .i64 A)).setCell ⟨b, done.length * 9 + 1, none⟩ (.int .i64 m)).setCell ⟨b, done.length * 9 + 2, none⟩ (.int .i64 g.length)).setCell ⟨b, done.length * 9 + 3, none⟩ (.int .i64 0)).setCell ⟨b, done.length * 9 + 4, none⟩ (.int .i64 0)).setCell ⟨b, done.length * 9 + 5, none⟩ (.int .i64 0)).setCell ⟨b, done.length * 9 + 6, none⟩ (.int .i64 0)).setCell ⟨b, done.length * 9 + 7, none⟩ (.int .i64 0)).setCell ⟨b, done.length * 9 + 8, none⟩ (.slice (some ⟨q, 0, none⟩) cap cap)) = w10 at *
        have HQ10 := Lib.hid (HP9.out.2.1.kept HG2.out (by simpa using HQB.out.symm))
        clear hwt q0 q1 q2 q3 q4 q5 q6 q7 q8 zf
        have hcl := ces_len cap g
        generalize hces : cesOf cap g = ces at *
        have HCES := Lib.hid (And.intro hcl hces)
        clear hcl hces
        go_loopw [67] (Ci9 w10 q cap ces) (fun x _ => cap - (intOf x).toNat)
        case atStart => exact ⟨0, by omega, rfl, by rw [fill_zero, HCES.out.1]; exact HQ10.out, Fr.refl _ _⟩
        case round =>
          obtain ⟨j, hj, rfl, oj, Fj⟩ := hrel
          by_cases hjl : j < cap
          · have HJ2 := Lib.hid (show j + 1 ≤ cap ∧ cap - (j + 1) < cap - j by omega)
            have hjlz : (j : Int) < (cap : Int) := by omega
            have hj0 : (0 : Int) ≤ (j : Int) := by omega
            have hcj : ces[j]? = some (ceO g[j]?) := by rw [← HCES.out.2]; exact ces_at hjl
            have hlv : ((spotG gs (done.length : Int) (j : Int)).getD (.agg #[.int .i64 0, .int .i64 0, .int .i64 0])) = .agg #[.int .i64 (ceO g[j]?).s, .int .i64 (ceO g[j]?).k, .int .i64 (ceO g[j]?).d] := by
              rw [spotG_at HGI.out.1, ceV_get]
            generalize ceO g[j]? = ce at *
            have c8 := Fj.cell S9c (by simpa using HQB.out)
            have HPM := Lib.hid ((HP9.out.2.2.kept HG2.out (by simpa using HBN.out.2.2)).kept Fj (by intro e; simp at e; have := HO5.out.2.2.lt; have := HQ.out; omega))
            have HLV := Lib.hid hlv
            have HCJ := Lib.hid hcj
            have HOJ := Lib.hid (And.intro oj Fj)
            have HC8 := Lib.hid c8
            have HWP := Lib.hid (wp_sm (i := done.length) (j := j) (by omega) (by omega))
            clear hlv hcj oj Fj c8
            go_wp2_with fail
            refine wp_region_free (by kernel_rfl) ?_
            refine any_envL [] wr #[true, true, true, true, true, true, true, true, true, true, true, false, false] 11 2 rfl ?_
            refine envL_pass [true, true, true, true, true, true, true, true, true, true, true, false, false] 0 (n := 88) (listed' := #[true, true, true, true, true, true, true, true, true, true, true, false, false]) rfl (by kernel_rfl) (by kernel_rfl) (by kernel_rfl) (by kernel_rfl) rfl (by kernel_rfl) (fun _ _ d _ _ h => by cases d <;> exact h) ((Fr.refl _ _).drew) ?_
            apply Exists.intro
            refine ⟨fun wf Ff => ?_, ?_⟩
            · have j8 := In.cell (Ff.cell HC8.out (by simp))
              have lk : ∀ s : In wf, (Instr.lookup 62 (.map (some bmp)) (.agg #[.int .i64 (done.length : Int), .int .i64 (j : Int)]) false).run Tryd.prog s.at_ = .ok (.agg #[.int .i64 ce.s, .int .i64 ce.k, .int .i64 ce.d]) s.at_ := fun s => by
                have := ((HPM.out.up Ff).up s.fr).look HWP.out
                rw [HLV.out] at this
                exact this
              simp only [sel]
              repeat (go_big_quiet_step (fail))
              exact wpQuiet_nil rfl
            refine envL_tail (k := 11) rfl (by kernel_rfl) (fun w11 F11 => ?_)
            have G11 := ((Fr.refl [] wr).drew).trans F11
            have o11 := HOJ.out.1.up G11
            have hz := fill_at (ms := ces) zCe (i := j) (by rw [HCES.out.1]; exact hjl)
            have q0 : w11.cell? ⟨q, j * 3, none⟩ = some (.int .i64 0) := o11.segCell fC_lays (i := j) (j := 0) hz rfl
            have q1 : w11.cell? ⟨q, j * 3 + 1, none⟩ = some (.int .i64 0) := o11.segCell fC_lays (i := j) (j := 1) hz rfl
            have q2 : w11.cell? ⟨q, j * 3 + 2, none⟩ = some (.int .i64 0) := o11.segCell fC_lays (i := j) (j := 2) hz rfl
            have zf := o11.frozen
            have HR := Lib.hid (And.intro (show Ob _ q 54 ((fillL ces zCe (j + 1)).flatMap fC).toArray by rw [← fill_set zCe HCJ.out]; exact ob_seg3 o11 hz ce) (show Fr [q] w10 _ from (HOJ.out.2.then G11).trans (fr3c (w := w11) (b := q) (j * 3) (j * 3 + 1) (j * 3 + 2) (.int .i64 ce.s) (.int .i64 ce.k) (.int .i64 ce.d))))
            clear F11 G11 o11 hz
            go_wp2_with fail
            go_roundw
            case rel => exact ⟨j + 1, HJ2.out.1, by simp, HR.out.1, HR.out.2⟩
            case measure => exact meas rfl HJ2.out.2
          · have hjlz : ¬ (j : Int) < (cap : Int) := by omega
            obtain rfl : j = cap := by omega
            rw [fill_full ces zCe (by rw [HCES.out.1]; exact Nat.le_refl _), ← HCES.out.2] at oj
            have hqw : w5.heap.size ≤ q := HQ.out
            have hob := HS9.out.kept Fj (by simpa using HQB.out)
            have hdn : Done w5 wr j at_ (7 + 3 * (j : Int)) ms gs (done ++ [⟨⟨A, m, g.length, 0, 0, 0, 0, 0⟩, ⟨some ⟨q, 0, none⟩, j, j⟩⟩]) := by
              intro i x g' e1 e2
              by_cases hid : i < done.length
              · rw [List.getElem?_append_left hid] at e1
                obtain ⟨h1, q', h2, h3, h4⟩ := HP9.out.1 i x g' e1 e2
                obtain ⟨-, q2, k2, -, k4⟩ := HD.out.1 i x g' e1 e2
                obtain rfl : q' = q2 := by rw [h2] at k2; simp at k2; exact k2
                have hlt4 := k4.lt
                have hle4 := HQ2.out
                have hne1 := h4.ne HOB.out (by decide)
                exact ⟨h1, q', h2, h3, (h4.kept HG2.out (by simpa using hne1)).kept Fj (by simp; omega)⟩
              · have hie : i = done.length := by have := (List.getElem?_eq_some_iff.1 e1).1; simp at this; omega
                subst hie
                rw [List.getElem?_append_right (Nat.le_refl _), Nat.sub_self] at e1
                obtain rfl := Option.some.inj e1
                rw [HGI.out.1] at e2
                obtain rfl := Option.some.inj e2
                refine ⟨?_, q, rfl, hqw, oj⟩
                unfold preH
                rw [← HA.out, List.getD_eq_getElem?_getD, HGI.out.2]; rfl
            have HR := Lib.hid (And.intro hob (And.intro hdn (fr_mix HG.out Fj (fun g hg => .inr (by simp at hg; omega)))))
            clear hob hdn oj Fj
            go_wp2_with fail
            go_roundw
            case rel => exact ⟨done.length + 1, _, HI2.out.1, by simp, by simp, HR.out.1, HR.out.2.1, HR.out.2.2⟩
            case measure => exact meas rfl HI2.out.2
      · obtain rfl : i = gs.length := by omega
        have hltz : ¬ ((gs.length : Nat) : Int) < ((gs.length : Nat) : Int) := by omega
        rw [Nat.sub_self, List.replicate_zero, List.append_nil] at o
        have FW := HFW.out wr F
        have HL := Lib.hid (And.intro o (And.intro hD (And.intro F hdl)))
        have HLK := Lib.hid (link_any after done b wr (tab_up t FW) (by have := hbt.out; simp at this; exact this) (by omega) o)
        rw [hdl] at HLK
        clear o hD F hdl
        go_wp2_with fail
        refine HLK.out.mono ?_
        rintro e w6 ⟨rfl, o6, F6⟩
        have HO6 := Lib.hid (And.intro o6 F6)
        clear o6 F6
        go_wp2_with fail
        go_ret
        have hlk := link_len after done
        have hsq := HO6.out.1.sq fH_lays (by rw [hlk, HL.out.2.2.2]; omega)
        rw [hlk, HL.out.2.2.2] at hsq
        have hfin := HCT.out
        simp only [if_true] at hfin
        refine ⟨⟨_, linkL after done, rfl, hsq, ?_⟩, FW.own HO6.out.2 (by simp; omega)⟩
        rw [hfin]
        exact chs_of rfl hc16 h0 h1 hl HL.out.2.2.2 HML.out.1 HL.out.2.1 HL.out.1 HO6.out.2

end Go.Proofs.YtdnilnjlbobcmaaDoor.Gp
/- The last step of a law's row, whatever its parameters' types: what was there when the call began is as it was, so each argument reads as it did. -/

namespace Go.Proofs.YtdnilnjlbobcmaaDoor.Law
open Go.ChangeShapes Go.WideShapes Go.ChangeAt Go.RowKit Go.Deep
set_option linter.unusedVariables false
section
variable {H : Type} {enc : TypeId × Value → H} {P : Program}
theorem post_of_below {f : Func} {s : ChangeSpec} {apart fresh handsOn again : Bool} {W W' : World} {args : Array Value} {v : Value} {ds gs : List (DataW H)} {before pa pv : List MemPlace}
    (hW : DataW.Whole enc P f.params.toList s.vars apart W args.toList ds gs before)
    (hres : ∀ (b : Nat) (sp : Nat → Bool) (hd : Bool), DataW.TrodAll enc P W' b sp hd f.resultTypes.toList (v.resultList f.resultTypes.size) (s.fn H (ds ++ gs)).results [])
    (hargs : ∀ sp : Nat → Bool, (∀ p ∈ before, sp p.block = true) → DataW.TrodAll enc P W' 0 sp true f.params.toList args.toList (s.fn H (ds ++ gs)).args pa)
    (hvars : ∀ sp : Nat → Bool, (∀ p ∈ before, sp p.block = true) → DataW.TrodVars enc P W' sp s.vars (s.fn H (ds ++ gs)).vars pv)
    (hps : before = pa ++ pv) (hb : Below W.heap.size W W')
    (hok : ∀ (j : Nat) (t : TypeId) (r : Value), f.resultTypes[j]? = some t → (v.resultList f.resultTypes.size)[j]? = some r → Value.okWide P W' .any 0 t r) :
    s.post enc P f apart fresh handsOn again W args v W' := by
  have hlt : ∀ p ∈ before, p.block < W.heap.size := fun p hp => hW.lt p hp
  have hold : ∀ p ∈ before, (fun b => decide (b < W.heap.size)) p.block = true := fun p hp => by simpa using hlt p hp
  refine ⟨ds, gs, before, [], pa, pv, hW, hres _ _ _, hargs _ hold, hvars _ hold, World.keptBut_mono (fun p hp => ⟨hp, ?_⟩) (hb.frame (· ∈ before)), fun _ => ?_⟩
  · rw [hps, List.mem_append] at hp
    exact Or.inr hp
  · obtain ⟨_, _, _, _, _, hz, hn⟩ := hW
    refine ⟨hok, _, _, ([] ++ pa) ++ pv, ⟨[] ++ pa, pv, trodAll_append (hargs _ (fun _ _ => rfl)) (hres _ _ _), hvars _ (fun _ _ => rfl), rfl, ?_, ?_⟩, ?_⟩
    · intro b off hp
      have hin : MemPlace.cell b off ∈ before := by rw [hps]; simpa using hp
      rw [hb.frozen (hlt _ hin)]
      exact hz b off hin
    · intro ha
      have := hn ha
      rw [hps] at this
      simpa using this
    · intro p hp _
      rw [hps]
      simpa using hp
/-- All arguments, at once. -/
theorem trodAll_stays (hl : laidOutB P = true) {W W' : World} (hb : Below W.heap.size W W') {sp : Nat → Bool} : ∀ (ts : List TypeId) (vs : List Value) (ds : List (DataW H)) (ps : List MemPlace),
    ts.all (fun t => P.readableRec t && decide (t < P.types.size)) = true → DataW.TrodAll enc P W 0 (fun _ => true) true ts vs ds ps → (∀ x ∈ ps, x.block < W.heap.size) → (∀ x ∈ ps, sp x.block = true) →
    DataW.TrodAll enc P W' 0 sp true ts vs ds ps
  | [], vs, ds, ps, _, h, _, _ => by
    cases vs <;> cases ds <;> simp_all [DataW.TrodAll]
  | t :: ts, vs, ds, ps, hr, h, hlt, hs => by
    match vs, ds, h with
    | v :: vs, d :: ds, ⟨p, q, h1, h2, hpq⟩ =>
      subst hpq
      simp only [List.all_cons, Bool.and_eq_true, decide_eq_true_eq] at hr
      exact ⟨p, q, WideElems.Trod_stays hl hr.1.1 hr.1.2 h1 (fun x hx => hb.same (hlt x (List.mem_append_left _ hx))) (fun x hx => hs x (List.mem_append_left _ hx)),
        trodAll_stays hl hb ts vs ds q hr.2 h2 (fun x hx => hlt x (List.mem_append_right _ hx)) (fun x hx => hs x (List.mem_append_right _ hx)), rfl⟩
theorem law_post {f : Func} {s : ChangeSpec} {W W' : World} {args : Array Value} {ds gs : List (DataW H)} {before : List MemPlace} {tb : TypeId}
    (hl : laidOutB P = true) (hr : f.params.toList.all (fun t => P.readableRec t && decide (t < P.types.size)) = true) (htb : P.underlying tb = some .bool) (hrt : f.resultTypes = #[tb])
    (hvars : s.vars = []) (hfn : (s.fn H (ds ++ gs)) = { results := [.lit (.bool true)], args := ds })
    (hW : DataW.Whole enc P f.params.toList s.vars false W args.toList ds gs before) (hb : Below W.heap.size W W') :
    s.post enc P f false true false false W args (.bool true) W' := by
  have hW' := hW
  have hlt : ∀ p ∈ before, p.block < W.heap.size := fun p hp => hW.lt p hp
  obtain ⟨p, q, hA, hV, rfl, hfz, hnd⟩ := hW
  rw [hvars] at hV
  have hgq : gs = [] ∧ q = [] := trodVars_none hV
  obtain ⟨rfl, rfl⟩ := hgq
  refine post_of_below (pa := p) (pv := []) hW' ?_ ?_ ?_ rfl hb ?_
  · intro b sp hd
    rw [hfn, hrt]
    exact trodAll_cons_mk (shut_bool htb _) trodAll_mk0
  · intro sp hsp
    rw [hfn]
    simp only [List.append_nil] at hsp hlt
    exact trodAll_stays hl hb _ _ _ _ hr hA hlt hsp
  · intro sp hsp
    rw [hfn, hvars]
    rfl
  · exact ok_one hrt rfl (okWide_bool_mk htb _)
theorem open_slice_fields {w : World} {base : Nat} {spare : Nat → Bool} {held : Bool} {t e : TypeId} {fs : Array Field} {fuel : Nat} {cs : List Value} {x : DataW H × List MemPlace} (ht : P.underlying t = some (.slice e)) (he : P.underlying e = some (.struct fs))
    (hone : oneCellFields P fs = true) (hC : P.cellsOf e = fs.size) (h : DataW.trod enc P w base spare held fuel t cs = some x) :
    (cs = [.slice none 0 0] ∧ x = (.nil, [])) ∨
    ∃ (a : Addr) (len cap m : Nat) (D : Nat → DataW H) (Pl : Nat → List MemPlace), cs = [.slice (some a) len cap] ∧ base ≤ a.block ∧ len ≤ cap ∧ cap ≤ maxLen ∧ m = (if spare a.block then cap else len) ∧
      x = (.slice ((List.range len).map D) ((List.range (m - len)).map fun j => D (len + j)), MemPlace.row a (m * fs.size) ++ (List.range m).flatMap Pl) ∧
      ∀ i, i < m → ∃ (ys : List (DataW H × List MemPlace)) (n : Nat), D i = .agg (ys.map (·.1)) ∧ Pl i = ys.flatMap (·.2) ∧ ys.length = fs.size ∧
        ∀ (j : Nat) (f : Field), fs[j]? = some f → ∃ (v : Value) (y : DataW H × List MemPlace), w.cell? (a.add (i * fs.size + j)) = some v ∧ ys[j]? = some y ∧ DataW.trod enc P w base spare held n f.type [v] = some y := by
  rcases open_slice ht h with h0 | ⟨a, len, cap, m, n, D, Pl, hcs, hb, hl, hm, hmm, hx, hi⟩
  · exact .inl h0
  · refine .inr ⟨a, len, cap, m, D, Pl, hcs, hb, hl, hm, hmm, by rw [hC] at hx; exact hx, fun i him => ?_⟩
    obtain ⟨cs', hc, ht'⟩ := hi i him
    rw [hC] at hc
    obtain ⟨ys, n', hn', hy, hlen, hyl, hf⟩ := DataW.trod_struct he ht'
    obtain ⟨_, hcl, hat⟩ := World.cells?_some hc
    simp only [Prod.mk.injEq] at hy
    refine ⟨ys, n', hy.1, hy.2, hyl, fun j f hj => ?_⟩
    obtain ⟨ho, hk⟩ := hone_of hone j f hj
    have hjl : j < fs.size := (Array.getElem?_eq_some_iff.1 hj).1
    have hcell := hat j hjl
    have hv : cs'[j]? = some (cs'[j]'(by omega)) := List.getElem?_eq_getElem (by omega)
    have h1 := hf j f hj
    rw [ho, hk] at h1
    have hone' : (cs'.drop j).take 1 = [cs'[j]'(by omega)] := by
      rw [List.drop_eq_getElem_cons (by omega)]
      rfl
    rw [hone'] at h1
    have hys : ys[j]? = some (ys[j]'(by omega)) := List.getElem?_eq_getElem (by omega)
    refine ⟨_, _, ?_, hys, h1.trans hys⟩
    rw [← Go.Deep.add_add, hcell, hv]
/-- A slice value whose elements are the integers zs. -/
def Ints (w : World) (k : IntKind) (v : Value) (zs : List Int) : Prop :=
  ∃ (a : Option Addr) (cap : Nat), v = .slice a zs.length cap ∧ zs.length ≤ maxLen ∧ (∀ n ∈ zs, (Lit.int k n).wf = true) ∧
    (zs.length = 0 ∨ ∃ b off, a = some ⟨b, off, none⟩ ∧ b < w.heap.size ∧ ∀ i, i < zs.length → w.cell? ⟨b, off + i, none⟩ = some (.int k (zs.getD i 0)))
theorem open_intsL {W : World} {t e : TypeId} {k : IntKind} {v : Value} {d : DataW H} {p : List MemPlace} {r : Reach} {base : Nat} (ht : P.underlying t = some (.slice e)) (he : P.underlying e = some (.int k)) (hc : P.cellsOf e = 1)
    (hv : Value.okWide P W r base t v) (h : DataW.Trod enc P W 0 (fun _ => true) true t v d p) : ∃ zs, Ints W k v zs := by
  obtain ⟨a0, len, cap, rfl⟩ := okWide_slice ht hv
  obtain ⟨fuel, hf⟩ := h
  rcases open_ints ht he hc hf with ⟨hcs, hx⟩ | ⟨a, len', cap', zs, hcs, _, hl, hm, hz, hx, hcell, hwz⟩
  · simp [Value.cells] at hcs
    obtain ⟨rfl, rfl, rfl⟩ := hcs
    exact ⟨[], none, 0, rfl, by simp [maxLen], by simp, .inl rfl⟩
  · simp [Value.cells] at hcs
    obtain ⟨rfl, rfl, rfl⟩ := hcs
    simp only [if_true] at hz
    have hlen : (zs.take len).length = len := by rw [List.length_take]; omega
    refine ⟨zs.take len, some a, cap, by rw [hlen], by omega, fun n hn => hwz n (List.mem_of_mem_take hn), ?_⟩
    by_cases h0 : len = 0
    · exact .inl (by omega)
    · obtain ⟨b, off, spot⟩ := a
      have hspot : spot = none := by simpa [Addr.add] using World.cell?_spot (hcell 0 (by omega))
      subst hspot
      refine .inr ⟨b, off, rfl, World.block_lt_of_cell? W _ (hcell 0 (by omega)), fun i hi => ?_⟩
      rw [hlen] at hi
      rw [← add_plain, hcell i (by omega)]
      simp [List.getD_eq_getElem?_getD, hi]
/-- A slice value of len structs of n fields, each one cell; V i j is field j of element i. -/
def Recs (w : World) (n : Nat) (v : Value) (len : Nat) (V : Nat → Nat → Value) : Prop :=
  ∃ (a : Option Addr) (cap : Nat), v = .slice a len cap ∧ len ≤ maxLen ∧
    (len = 0 ∨ ∃ b off, a = some ⟨b, off, none⟩ ∧ b < w.heap.size ∧ ∀ i, i < len → ∀ j, j < n → w.cell? ⟨b, off + (i * n + j), none⟩ = some (V i j))
theorem open_recsL {W : World} {t e : TypeId} {fs : Array Field} {v : Value} {d : DataW H} {p : List MemPlace} {r : Reach} {base : Nat} (ht : P.underlying t = some (.slice e)) (he : P.underlying e = some (.struct fs))
    (hone : oneCellFields P fs = true) (hC : P.cellsOf e = fs.size) (h0 : 0 < fs.size)
    (hv : Value.okWide P W r base t v) (h : DataW.Trod enc P W 0 (fun _ => true) true t v d p) :
    ∃ len V, Recs W fs.size v len V ∧ ∀ i, i < len → ∀ (j : Nat) (f : Field), fs[j]? = some f → ∃ n y, DataW.trod enc P W 0 (fun _ => true) true n f.type [V i j] = some y := by
  obtain ⟨a0, len, cap, rfl⟩ := okWide_slice ht hv
  obtain ⟨fuel, hf⟩ := h
  rcases open_slice_fields ht he hone hC hf with ⟨hcs, hx⟩ | ⟨a, len', cap', m, D, Pl, hcs, _, hl, hm, hmm, hx, hi⟩
  · simp [Value.cells] at hcs
    obtain ⟨rfl, rfl, rfl⟩ := hcs
    exact ⟨0, fun _ _ => undef, ⟨none, 0, rfl, Nat.zero_le _, .inl rfl⟩, fun i hi => absurd hi (Nat.not_lt_zero i)⟩
  · simp [Value.cells] at hcs
    obtain ⟨rfl, rfl, rfl⟩ := hcs
    simp only [if_true] at hmm
    have hcell : ∀ i, i < len → ∀ (j : Nat) (f : Field), fs[j]? = some f → ∃ v n y, W.cell? (a.add (i * fs.size + j)) = some v ∧ DataW.trod enc P W 0 (fun _ => true) true n f.type [v] = some y := by
      intro i hil j f hj
      obtain ⟨ys, n, _, _, _, hf'⟩ := hi i (by omega)
      obtain ⟨v, y, h1, h2, h3⟩ := hf' j f hj
      exact ⟨v, n, y, h1, h3⟩
    refine ⟨len, fun i j => ((W.cell? (a.add (i * fs.size + j))).getD undef), ⟨some a, cap, rfl, by omega, ?_⟩, fun i hil j f hj => ?_⟩
    · by_cases h0' : len = 0
      · exact .inl h0'
      · obtain ⟨b, off, spot⟩ := a
        obtain ⟨v0, _, _, hc0, _⟩ := hcell 0 (by omega) 0 fs[0] (by simp [h0])
        have hspot : spot = none := by simpa [Addr.add] using World.cell?_spot hc0
        subst hspot
        refine .inr ⟨b, off, rfl, ?_, fun i hil j hj => ?_⟩
        · have := World.block_lt_of_cell? W _ hc0
          simpa [Addr.add] using this
        · obtain ⟨v1, _, _, hc1, _⟩ := hcell i hil j fs[j] (by simp [hj])
          show _ = some ((W.cell? _).getD undef); rw [hc1, ← add_plain, hc1]; rfl
    · obtain ⟨v1, n, y, hc1, ht1⟩ := hcell i hil j f hj
      exact ⟨n, y, by show DataW.trod enc P W 0 _ true n f.type [(W.cell? _).getD undef] = _; rw [hc1]; exact ht1⟩
/-- Structs whose fields are all integers of one kind. -/
theorem recs_int {W : World} {fs : Array Field} {k : IntKind} {len : Nat} {V : Nat → Nat → Value}
    (hV : ∀ i, i < len → ∀ (j : Nat) (f : Field), fs[j]? = some f → ∃ n y, DataW.trod enc P W 0 (fun _ => true) true n f.type [V i j] = some y)
    (hf : ∀ (j : Nat) (f : Field), fs[j]? = some f → P.underlying f.type = some (.int k)) : ∀ i, i < len → ∀ j, j < fs.size → ∃ x : Int, V i j = .int k x ∧ (Lit.int k x).wf = true := by
  intro i hi j hj
  obtain ⟨n, y, h⟩ := hV i hi j fs[j] (by simp [hj])
  obtain ⟨x, hx, -, hw⟩ := DataW.trod_int (hf j fs[j] (by simp [hj])) h
  exact ⟨x, by simpa using hx, hw⟩
/-- The fields of a struct are all of one type. -/
theorem fields_all {fs : Array Field} {t : TypeId} (h : (fs.all fun f => f.type == t) = true) : ∀ (j : Nat) (f : Field), fs[j]? = some f → f.type = t := by
  intro j f hj
  have := Array.all_eq_true_iff_forall_mem.1 h f (Array.mem_of_getElem? hj)
  simpa using this
end
end Go.Proofs.YtdnilnjlbobcmaaDoor.Law
/- Whether two rows of items, of ints are the same. -/

namespace Go.Proofs.YtdnilnjlbobcmaaDoor.Kp
open Go.RowKit Go.Proofs.YtdnilnjlbobcmaaDoor.Ar Go.Proofs.YtdnilnjlbobcmaaDoor.Mx
set_option linter.unusedVariables false
set_option linter.unusedSimpArgs false
theorem itGuard : Tryd.prog.eqGuardType Tryd.prog.depth 43 = false := by kernel_rfl
theorem it_eql (k i o k' i' o' : Int) (W : World) : (binOp .eql 43 (.agg #[.int .i64 k, .int .i64 i, .int .i64 o]) (.agg #[.int .i64 k', .int .i64 i', .int .i64 o'])).run Tryd.prog W = .ok (.bool (k == k' && i == i' && o == o')) W := by
  have u3 := Tryd.underlying3
  have a3 : (isAgg 3).run Tryd.prog W = .ok false W := by kernel_rfl
  have hS : Tryd.prog.underlying 43 = some (.struct (Tryd.prog.fieldsOf 43)) := by kernel_rfl
  have hp : Tryd.prog.stoodInHeld 43 = false := by kernel_rfl
  rw [run_eql_struct, show (10000 : Nat) = 9999 + 1 from rfl, run_equalIn_agg W 9999 43 _ _ hS hp]
  simp only [Program.fieldsOf, Tryd.underlying43]
  go_simp
  cases h1 : k == k' <;> cases h2 : i == i' <;> cases h3 : o == o' <;> simp_all
theorem take_more {α : Type} {xs ys : List α} {n : Nat} {x y : α} (h : xs.take n = ys.take n) (hx : xs[n]? = some x) (hy : ys[n]? = some y) (e : x = y) : xs.take (n + 1) = ys.take (n + 1) := by
  rw [List.take_add_one, List.take_add_one, h, hx, hy, e]
theorem take_less {α : Type} [DecidableEq α] {xs ys : List α} {n : Nat} {x y : α} (hx : xs[n]? = some x) (hy : ys[n]? = some y) (e : x ≠ y) : decide (xs = ys) = false := by
  apply decide_eq_false; rintro rfl; rw [hx] at hy; exact e (Option.some.inj hy)
theorem it_neq (x y : It) (W : World) : (binOp .neq 43 (.agg #[.int .i64 x.k, .int .i64 x.v, .int .i64 x.d]) (.agg #[.int .i64 y.k, .int .i64 y.v, .int .i64 y.d])).run Tryd.prog W = .ok (.bool (decide (x ≠ y))) W := by
  obtain ⟨k, i, o⟩ := x
  obtain ⟨k', i', o'⟩ := y
  have u3 := Tryd.underlying3
  have a3 : (isAgg 3).run Tryd.prog W = .ok false W := by kernel_rfl
  have hS : Tryd.prog.underlying 43 = some (.struct (Tryd.prog.fieldsOf 43)) := by kernel_rfl
  have hp : Tryd.prog.stoodInHeld 43 = false := by kernel_rfl
  rw [run_neq_struct, show (10000 : Nat) = 9999 + 1 from rfl, run_equalIn_agg W 9999 43 _ _ hS hp]
  simp only [Program.fieldsOf, Tryd.underlying43]
  go_simp
  by_cases h1 : k = k' <;> by_cases h2 : i = i' <;> by_cases h3 : o = o' <;> simp [h1, h2, h3]
def EqIAt (w : World) (xs ys : List It) (x : Value) (wr : World) : Prop := ∃ n : Nat, n ≤ xs.length ∧ x = .int .i64 n ∧ Fr [] w wr ∧ xs.take n = ys.take n
set_option maxHeartbeats 3200000 in
theorem sameItems_any (xs ys : List It) (u v : Value) (w : World) (hl : xs.length ≤ 1000000) (hl2 : ys.length ≤ 1000000) (hx : Sq fT w u xs) (hy : Sq fT w v ys) : Calls Tryd.prog 16 #[u, v] w fun e w' => e = .returned (.bool (decide (xs = ys))) ∧ Fr [] w w' := by
  obtain ⟨a, cap, rfl, -, hm, -⟩ := id hx
  obtain ⟨a2, cap2, rfl, -, hm2, -⟩ := id hy
  have hG := itGuard
  go_enter Tryd.func16, Tryd.ntmps16
  by_cases hll : xs.length = ys.length
  · have hll' : (xs.length : Int) = ys.length := by omega
    have g : ((xs.length : Int) != ys.length) = false := by simp [hll]
    go_wp2_with fail
    clear hll'
    have HL := Lib.hid hll
    clear hll g
    go_loopw [5] (EqIAt w xs ys) (fun x _ => xs.length - (intOf x).toNat)
    case atStart => exact ⟨0, Nat.zero_le _, rfl, Fr.refl _ _, rfl⟩
    case round =>
      obtain ⟨n, hn, rfl, Fw, hi⟩ := hrel
      by_cases hlt : n < xs.length
      · have hlt2 : n < ys.length := by have := HL.out; omega
        obtain ⟨x, hxn⟩ : ∃ x, xs[n]? = some x := ⟨xs[n], List.getElem?_eq_getElem hlt⟩
        obtain ⟨y, hyn⟩ : ∃ y, ys[n]? = some y := ⟨ys[n], List.getElem?_eq_getElem hlt2⟩
        obtain ⟨b, off, rfl, c0, c1, c2⟩ := it_cells (hx.up Fw) hxn
        obtain ⟨b2, off2, rfl, d0, d1, d2⟩ := it_cells (hy.up Fw) hyn
        have k0 := In.cell c0
        have k1 := In.cell c1
        have k2 := In.cell c2
        have l0 := In.cell d0
        have l1 := In.cell d1
        have l2 := In.cell d2
        have hne := it_neq x y
        obtain ⟨q, hg⟩ : ∃ q, decide (x ≠ y) = q := ⟨_, rfl⟩
        rw [hg] at hne
        have HG := Lib.hid hg
        have HX := Lib.hid hxn
        have HY := Lib.hid hyn
        have HI := Lib.hid hi
        clear c0 c1 c2 d0 d1 d2 hg hxn hyn hi
        go_wp2_with fail
        refine wp_region_in (by kernel_rfl) (by kernel_rfl) ?_
        repeat (go_big_quiet_step (fail))
        refine wpQuiet_nil ?_
        intro w1 F1
        clear k0 k1 k2 l0 l1 l2 hne hG
        cases q with
        | true =>
          go_wp2
          go_ret
          exact ⟨by rw [take_less HX.out HY.out (of_decide_eq_true HG.out)]; rfl, Fw.trans F1⟩
        | false =>
          go_wp2
          go_roundw
          case rel => exact ⟨n + 1, by omega, by go_num, Fw.trans F1, take_more HI.out HX.out HY.out (by have := HG.out; simpa using this)⟩
          case measure => simp [intOf]; omega
      · obtain rfl : n = xs.length := by omega
        have HI := Lib.hid hi
        clear hi
        go_wp2
        go_ret
        exact ⟨by
          have := HI.out
          rw [List.take_length, HL.out, List.take_length] at this
          rw [decide_eq_true this]; rfl, Fw⟩
  · have g : ((xs.length : Int) != ys.length) = true := by simp; omega
    go_wp2
    go_ret
    exact ⟨by rw [decide_eq_false (fun e => hll (by rw [e]))]; rfl, Fr.refl _ _⟩
def EqZAt (w : World) (xs ys : List Int) (x : Value) (wr : World) : Prop := ∃ n : Nat, n ≤ xs.length ∧ x = .int .i64 n ∧ Fr [] w wr ∧ xs.take n = ys.take n
set_option maxHeartbeats 3200000 in
theorem sameI_any (xs ys : List Int) (u v : Value) (w : World) (hl : xs.length ≤ 1000000) (hl2 : ys.length ≤ 1000000) (hx : Sq fI w u xs) (hy : Sq fI w v ys) : Calls Tryd.prog 13 #[u, v] w fun e w' => e = .returned (.bool (decide (xs = ys))) ∧ Fr [] w w' := by
  obtain ⟨a, cap, rfl, -, hm, -⟩ := id hx
  obtain ⟨a2, cap2, rfl, -, hm2, -⟩ := id hy
  go_enter Tryd.func13, Tryd.ntmps13
  by_cases hll : xs.length = ys.length
  · have hll' : (xs.length : Int) = ys.length := by omega
    have g : ((xs.length : Int) != ys.length) = false := by simp [hll]
    go_wp2_with fail
    clear hll'
    have HL := Lib.hid hll
    clear hll g
    go_loopw [5] (EqZAt w xs ys) (fun x _ => xs.length - (intOf x).toNat)
    case atStart => exact ⟨0, Nat.zero_le _, rfl, Fr.refl _ _, rfl⟩
    case round =>
      obtain ⟨n, hn, rfl, Fw, hi⟩ := hrel
      by_cases hlt : n < xs.length
      · have hlt2 : n < ys.length := by have := HL.out; omega
        obtain ⟨x, hxn⟩ : ∃ x, xs[n]? = some x := ⟨xs[n], List.getElem?_eq_getElem hlt⟩
        obtain ⟨y, hyn⟩ : ∃ y, ys[n]? = some y := ⟨ys[n], List.getElem?_eq_getElem hlt2⟩
        obtain ⟨b, off, rfl, c0⟩ := int_cell (hx.up Fw) hxn
        obtain ⟨b2, off2, rfl, d0⟩ := int_cell (hy.up Fw) hyn
        have k0 := In.cell c0
        have l0 := In.cell d0
        obtain ⟨q, hg⟩ : ∃ q, decide (x ≠ y) = q := ⟨_, rfl⟩
        have hne : (x != y) = q := by rw [← hg]; cases hxy : (x != y) <;> simp_all
        have HG := Lib.hid hg
        have HX := Lib.hid hxn
        have HY := Lib.hid hyn
        have HI := Lib.hid hi
        clear c0 d0 hg hxn hyn hi
        go_wp2_with fail
        refine wp_region_in (by kernel_rfl) (by kernel_rfl) ?_
        repeat (go_big_quiet_step (fail))
        refine wpQuiet_nil ?_
        intro w1 F1
        clear k0 l0 hne
        cases q with
        | true =>
          go_wp2
          go_ret
          exact ⟨by rw [take_less HX.out HY.out (of_decide_eq_true HG.out)]; rfl, Fw.trans F1⟩
        | false =>
          go_wp2
          go_roundw
          case rel => exact ⟨n + 1, by omega, by go_num, Fw.trans F1, take_more HI.out HX.out HY.out (by have := HG.out; simpa using this)⟩
          case measure => simp [intOf]; omega
      · obtain rfl : n = xs.length := by omega
        have HI := Lib.hid hi
        clear hi
        go_wp2
        go_ret
        exact ⟨by
          have := HI.out
          rw [List.take_length, HL.out, List.take_length] at this
          rw [decide_eq_true this]; rfl, Fw⟩
  · have g : ((xs.length : Int) != ys.length) = true := by simp; omega
    go_wp2
    go_ret
    exact ⟨by rw [decide_eq_false (fun e => hll (by rw [e]))]; rfl, Fr.refl _ _⟩
end Go.Proofs.YtdnilnjlbobcmaaDoor.Kp
/- Items and ints that come in as parameters. -/

namespace Go.Proofs.YtdnilnjlbobcmaaDoor.Kp
open Go.ChangeShapes Go.WideShapes Go.ChangeAt Go.RowKit Go.Deep Go.Proofs.YtdnilnjlbobcmaaDoor.Ar Go.Proofs.YtdnilnjlbobcmaaDoor.Mx
set_option linter.unusedVariables false
set_option linter.unusedSimpArgs false
set_option maxRecDepth 100000 in
theorem open_ints8 {H : Type} {enc : TypeId × Value → H} {W : World} {v : Value} {d : DataW H} {p : List MemPlace} {r : Reach} {base : Nat}
    (hv : Value.okWide Tryd.prog W r base 32 v) (h : DataW.Trod enc Tryd.prog W 0 (fun _ => true) true 32 v d p) : ∃ zs, Sq fI W v zs ∧ ∀ z, z ∈ zs → (Lit.int .i64 z).wf = true := by
  obtain ⟨a0, len, cap, rfl⟩ := okWide_slice Tryd.underlying32 hv
  obtain ⟨fuel, hf⟩ := h
  rcases open_ints Tryd.underlying32 Tryd.underlying3 (by kernel_rfl) hf with ⟨hcs, hx⟩ | ⟨a, len', cap', zs, hcs, _, hl, hm, hz, hx, hcell, hwz⟩
  · simp [Value.cells] at hcs
    obtain ⟨rfl, rfl, rfl⟩ := hcs
    exact ⟨[], Sq.nil W, by simp⟩
  · simp [Value.cells] at hcs
    obtain ⟨rfl, rfl, rfl⟩ := hcs
    simp only [if_true] at hz
    have hlen : (zs.take len).length = len := by rw [List.length_take]; omega
    refine ⟨zs.take len, ⟨some a, cap, by rw [hlen], by omega, hm, ?_⟩, fun n hn => hwz n (List.mem_of_mem_take hn)⟩
    by_cases h0 : len = 0
    · exact .inl (by omega)
    · obtain ⟨b, off, spot⟩ := a
      have hspot : spot = none := by simpa [Addr.add] using World.cell?_spot (hcell 0 (by omega))
      subst hspot
      refine .inr ⟨b, off, rfl, World.block_lt_of_cell? W _ (hcell 0 (by omega)), fun j u hj => ?_⟩
      have hfl : (zs.take len).flatMap fI = (zs.take len).map fun z => Value.int .i64 z := by
        generalize zs.take len = ys
        induction ys with
        | nil => rfl
        | cons y ys ih => simp [List.flatMap_cons, fI, ih]
      rw [hfl, List.getElem?_map] at hj
      cases hy : (zs.take len)[j]? with
      | none => rw [hy] at hj; cases hj
      | some z =>
        rw [hy] at hj
        have hjl : j < len := by have := (List.getElem?_eq_some_iff.1 hy).1; omega
        rw [← addr_add, hcell j (by omega)]
        rw [List.getElem?_take_of_lt hjl] at hy
        simpa [List.getD_eq_getElem?_getD, hy] using hj
theorem get_flat8 (xs : List It) : ∀ (i c : Nat) (x : It), xs[i]? = some x → c < 3 → (xs.flatMap fT)[i * 3 + c]? = (fT x)[c]? := fun i c x hx hc => fT_lays.at hx hc
def itemOf (V : Nat → Nat → Value) (i : Nat) : It := ⟨RowKit.intOf (V i 0), RowKit.intOf (V i 1), RowKit.intOf (V i 2)⟩
set_option maxRecDepth 100000 in
theorem open_items8 {H : Type} {enc : TypeId × Value → H} {W : World} {v : Value} {d : DataW H} {p : List MemPlace} {r : Reach} {base : Nat}
    (hv : Value.okWide Tryd.prog W r base 22 v) (h : DataW.Trod enc Tryd.prog W 0 (fun _ => true) true 22 v d p) :
    ∃ xs, Sq fT W v xs ∧ ∀ x, x ∈ xs → Wf x.k x.v ∧ (Lit.int .i64 x.d).wf = true := by
  obtain ⟨len, V, hR, hV⟩ := Law.open_recsL Tryd.underlying22 Tryd.underlying43 (by kernel_rfl) (by kernel_rfl) (by decide) hv h
  have hI := Law.recs_int (k := .i64) hV (fun j f hh => by rw [Law.fields_all (t := 3) (by kernel_rfl) j f hh]; exact Tryd.underlying3)
  have hcap : ∃ a cap, v = .slice a len cap ∧ len ≤ cap ∧ cap ≤ maxLen := by
    obtain ⟨a0, len0, cap0, rfl⟩ := okWide_slice Tryd.underlying22 hv
    obtain ⟨a1, cap1, e, _⟩ := hR
    obtain ⟨rfl, rfl, rfl⟩ := Value.slice.inj e
    obtain ⟨fuel, hf⟩ := h
    rcases Law.open_slice_fields Tryd.underlying22 Tryd.underlying43 (by kernel_rfl) (by kernel_rfl) hf with ⟨hcs, hx⟩ | ⟨a, len', cap', m, D, Pl, hcs, _, hl, hm, hmm, hx, hi⟩
    · simp [Value.cells] at hcs
      obtain ⟨rfl, rfl, rfl⟩ := hcs
      exact ⟨none, 0, rfl, Nat.le_refl _, by simp [maxLen]⟩
    · simp [Value.cells] at hcs
      obtain ⟨rfl, rfl, rfl⟩ := hcs
      exact ⟨_, _, rfl, hl, hm⟩
  obtain ⟨a, cap, rfl, hl, hm⟩ := hcap
  obtain ⟨a1, cap1, e, h1, h2⟩ := hR
  obtain ⟨rfl, -, rfl⟩ := Value.slice.inj e
  have each : ∀ i, i < len → (V i 0 = .int .i64 (itemOf V i).k ∧ V i 1 = .int .i64 (itemOf V i).v ∧ V i 2 = .int .i64 (itemOf V i).d) ∧ Wf (itemOf V i).k (itemOf V i).v ∧ (Lit.int .i64 (itemOf V i).d).wf = true := by
    intro i hi
    obtain ⟨x0, e0, f0⟩ := hI i hi 0 (by decide)
    obtain ⟨x1, e1, f1⟩ := hI i hi 1 (by decide)
    obtain ⟨x2, e2, f2⟩ := hI i hi 2 (by decide)
    have k0 : (itemOf V i).k = x0 := by unfold itemOf; rw [e0]; rfl
    have k1 : (itemOf V i).v = x1 := by unfold itemOf; rw [e1]; rfl
    have k2 : (itemOf V i).d = x2 := by unfold itemOf; rw [e2]; rfl
    rw [k0, k1, k2]
    exact ⟨⟨e0, e1, e2⟩, ⟨f0, f1⟩, f2⟩
  have hlen : ((List.range len).map (itemOf V)).length = len := by simp
  refine ⟨(List.range len).map (itemOf V), ⟨a, cap, by rw [hlen], by rw [hlen]; exact hl, hm, ?_⟩, fun x hx => ?_⟩
  · rcases h2 with h2 | ⟨b, off, rfl, hb, hc⟩
    · exact .inl (by rw [hlen]; exact h2)
    · refine .inr ⟨b, off, rfl, hb, fun j u hj => ?_⟩
      have hjl : j < len * 3 := by
        have := (List.getElem?_eq_some_iff.1 hj).1
        rw [fT_lays.flat, hlen] at this; exact this
      have hx : ((List.range len).map (itemOf V))[j / 3]? = some (itemOf V (j / 3)) := by
        rw [List.getElem?_map, List.getElem?_range (by omega)]; rfl
      have h3 := get_flat8 _ (j / 3) (j % 3) _ hx (Nat.mod_lt _ (by omega))
      rw [show j / 3 * 3 + j % 3 = j by omega, hj] at h3
      have h4 : W.cell? ⟨b, off + (j / 3 * 3 + j % 3), none⟩ = some (V (j / 3) (j % 3)) := hc (j / 3) (by omega) (j % 3) (Nat.mod_lt _ (by omega))
      rw [show j / 3 * 3 + j % 3 = j by omega] at h4
      rw [h4]
      obtain ⟨⟨e0, e1, e2⟩, -⟩ := each (j / 3) (by omega)
      rcases (show j % 3 = 0 ∨ j % 3 = 1 ∨ j % 3 = 2 by omega) with hm3 | hm3 | hm3 <;> rw [hm3] at h3 ⊢ <;> simp [fT] at h3
      · rw [e0, h3]
      · rw [e1, h3]
      · rw [e2, h3]
  · obtain ⟨i, hi, rfl⟩ := List.mem_map.1 hx
    exact (each i (List.mem_range.1 hi)).2
end Go.Proofs.YtdnilnjlbobcmaaDoor.Kp
/- Layer 9's known case. -/

namespace Go.Proofs.YtdnilnjlbobcmaaDoor.Gp
open Go.RowKit Go.Proofs.YtdnilnjlbobcmaaDoor.Ar Go.Proofs.YtdnilnjlbobcmaaDoor.Mx Go.Proofs.YtdnilnjlbobcmaaDoor.Kp Go.Proofs.YtdnilnjlbobcmaaDoor.Vw
set_option linter.unusedVariables false
set_option linter.unusedSimpArgs false
def K9 : List It := [⟨1, 0, 0⟩, ⟨1, 2, 0⟩, ⟨2, 0, 0⟩, ⟨5, 0, 0⟩]
def G9 : List (List It) := [[⟨1, 0, 0⟩, ⟨1, 2, 0⟩], [⟨2, 0, 0⟩, ⟨5, 0, 0⟩]]
theorem k9_split : splitT K9 4 = G9 := by decide +kernel
theorem k9_none : splitT [] 4 = [[]] := by decide +kernel
theorem k9_srt : Srt K9 := by unfold Srt K9 leT; decide +kernel
theorem k9_wf : ∀ x, x ∈ K9 → (Lit.int .i64 x.k).wf = true := by decide +kernel
theorem k9_mins : minsT 0 G9 = [0, 2] := by decide +kernel
def C9 : List Nk := [⟨50, 0, 2, 138, [⟨1, 0, 0⟩, ⟨1, 2, 0⟩]⟩, ⟨69, 2, 2, 154, [⟨2, 0, 0⟩, ⟨5, 0, 0⟩]⟩]
theorem k9_chunks : chunksT ⟨1, 4, 200, 1000⟩ 50 77 0 G9 = C9 := by
  have h1 : wrap64 69 = 69 := w64 (by omega) (by omega)
  have h2 : wrap64 88 = 88 := w64 (by omega) (by omega)
  unfold chunksT
  rw [if_pos (by decide +kernel), k9_mins]
  simp [G9, C9, chunksF, sizeP, h1, h2, nextW, hd]
  omega
theorem ch_at {w : World} {a : Option Addr} {n cap i : Nat} {xs : List Chs} {x : Chs} (h : Sq fH w (.slice a n cap) xs) (hi : xs[i]? = some x) :
    ∃ g off, a = some ⟨g, off, none⟩ ∧ w.cell? ⟨g, off + i * 9, none⟩ = some (.int .i64 x.h.at_) ∧ w.cell? ⟨g, off + i * 9 + 1, none⟩ = some (.int .i64 x.h.mn) ∧ w.cell? ⟨g, off + i * 9 + 2, none⟩ = some (.int .i64 x.h.ct) ∧ w.cell? ⟨g, off + i * 9 + 3, none⟩ = some (.int .i64 x.h.nx) ∧
      w.cell? ⟨g, off + i * 9 + 4, none⟩ = some (.int .i64 x.h.ld) ∧ w.cell? ⟨g, off + i * 9 + 5, none⟩ = some (.int .i64 x.h.mt) ∧ w.cell? ⟨g, off + i * 9 + 6, none⟩ = some (.int .i64 x.h.rp) ∧ w.cell? ⟨g, off + i * 9 + 7, none⟩ = some (.int .i64 x.h.st) ∧ w.cell? ⟨g, off + i * 9 + 8, none⟩ = some x.s.v := by
  obtain ⟨-, g, off, rfl, hc⟩ := Sq.cell fH_lays h hi
  exact ⟨g, off, rfl, hc 0 _ rfl, hc 1 _ rfl, hc 2 _ rfl, hc 3 _ rfl, hc 4 _ rfl, hc 5 _ rfl, hc 6 _ rfl, hc 7 _ rfl, hc 8 _ rfl⟩
theorem ceGuard9 : Tryd.prog.eqGuardType Tryd.prog.depth 54 = false := by kernel_rfl
theorem ce_eql (x y : Ce) (W : World) : (binOp .eql 54 (.agg #[.int .i64 x.s, .int .i64 x.k, .int .i64 x.d]) (.agg #[.int .i64 y.s, .int .i64 y.k, .int .i64 y.d])).run Tryd.prog W = .ok (.bool (decide (x = y))) W := by
  obtain ⟨k, i, o⟩ := x
  obtain ⟨k', i', o'⟩ := y
  have u3 := Tryd.underlying3
  have a3 : (isAgg 3).run Tryd.prog W = .ok false W := by kernel_rfl
  have hS : Tryd.prog.underlying 54 = some (.struct (Tryd.prog.fieldsOf 54)) := by kernel_rfl
  have hp : Tryd.prog.stoodInHeld 54 = false := by kernel_rfl
  rw [run_eql_struct, show (10000 : Nat) = 9999 + 1 from rfl, run_equalIn_agg W 9999 54 _ _ hS hp]
  simp only [Program.fieldsOf, Tryd.underlying54]
  go_simp
  by_cases h1 : k = k' <;> by_cases h2 : i = i' <;> by_cases h3 : o = o' <;> simp [h1, h2, h3]
theorem split_k (v : Value) (w : World) (h : Sq fT w v K9) : Calls Tryd.prog 11 #[v, .int .i64 4] w fun e w' => (∃ u ss, e = .returned u ∧ ss.length = G9.length ∧ w'.ownsRow w.heap.size 22 1 u ss.length (ss.flatMap fS) ∧ Gr w' w.heap.size ss G9) ∧ Fr [] w w' := by
  have := split9_any K9 4 v w (by decide) k9_srt k9_wf h
  rw [k9_split] at this; exact this
theorem split_n (w : World) : Calls Tryd.prog 11 #[.slice none 0 0, .int .i64 4] w fun e w' => (∃ a c, e = .returned (.slice a 1 c)) ∧ Fr [] w w' := by
  have := split9_any [] 4 (.slice none 0 0) w (by decide) List.Pairwise.nil (by simp) (Sq.nil w)
  rw [k9_none] at this
  refine this.mono ?_
  rintro e w' ⟨⟨u, ss, rfl, hl, hr, -⟩, F⟩
  obtain ⟨a, c, rfl, -⟩ := Sq.own (f := fS) hr
  rw [hl]
  exact ⟨⟨a, c, rfl⟩, F⟩
set_option maxRecDepth 100000 in
set_option maxHeartbeats 6400000 in
theorem known9_any (w : World) (t : Word.Tab w) : Calls Tryd.prog 8 #[] w fun e w' => e = .returned (.bool true) ∧ Fr [] w w' := by
  go_enter Tryd.func8, Tryd.ntmps8
  go_wp2_with fail
  have B5 := Go.heap_alloc_new w (.cells #[.int .i64 1, .int .i64 0, .int .i64 0, .int .i64 1, .int .i64 2, .int .i64 0, .int .i64 2, .int .i64 0, .int .i64 0, .int .i64 5, .int .i64 0, .int .i64 0] 43)
  have F0 := (Fr.refl [] w).alloc (.cells #[.int .i64 1, .int .i64 0, .int .i64 0, .int .i64 1, .int .i64 2, .int .i64 0, .int .i64 2, .int .i64 0, .int .i64 0, .int .i64 5, .int .i64 0, .int .i64 0] 43)
  have S5 : Sq fT _ (.slice (some ⟨w.heap.size, 0, none⟩) 4 4) K9 := Sq.block B5 rfl rfl (Nat.le_refl _) (by simp [maxLen])
  have t1 := tab_up t F0
  clear B5
  generalize World.alloc w _ = w1 at *
  generalize w.heap.size = p at *
  refine (split_k _ w1 S5).mono ?_
  rintro e w2 ⟨⟨u2, ss, rfl, hsl, r2, G2⟩, F2⟩
  have S2 := Sq.own (f := fS) r2
  have HG2 := Lib.hid (And.intro S2 G2.gs)
  obtain ⟨a2, c2, rfl, hc2, hm2, -⟩ := id S2
  have hsl2 : ss.length = 2 := hsl
  rw [hsl2] at hc2 ⊢
  rw [hsl2] at HG2
  have t2 := tab_up t1 F2
  have F02 := F0.trans F2
  clear r2 S2 S5 F0 F2 t1 hsl G2 t
  go_wp2_with fail
  refine (Pl.conf_any 1 4 200 w2).mono ?_
  rintro e w3 ⟨rfl, F3⟩
  have t3 := tab_up t2 F3
  go_wp2_with fail
  have HC := chunks9_any ⟨1, 4, 200, 1000⟩ 4 50 77 0 G9 ss _ w3 t3 rfl (by decide) (by omega) (by omega) (by decide) (by decide) (HG2.out.1.up F3) (HG2.out.2.up F3)
  rw [k9_chunks] at HC
  refine HC.mono ?_
  rintro e w4 ⟨⟨u4, xs, rfl, S4, X4⟩, F4⟩
  clear HC
  have hxl : xs.length = 2 := X4.1
  obtain ⟨x0, hx0⟩ : ∃ x, xs[0]? = some x := ⟨xs[0], List.getElem?_eq_getElem _⟩
  obtain ⟨x1, hx1⟩ : ∃ x, xs[1]? = some x := ⟨xs[1], List.getElem?_eq_getElem _⟩
  obtain ⟨e0, c0⟩ := X4.2 0 x0 _ hx0 rfl
  obtain ⟨e1, c1⟩ := X4.2 1 x1 _ hx1 rfl
  obtain ⟨y0, z0⟩ := x0
  obtain ⟨y1, z1⟩ := x1
  simp only at e0 e1 c0
  subst e0 e1
  obtain ⟨za, zn, zc⟩ := z0
  obtain ⟨az, cz, ez, hcz, hmz, -⟩ := id c0
  unfold Sv.v at ez
  simp only [Value.slice.injEq] at ez
  obtain ⟨rfl, rfl, rfl⟩ := ez
  rw [ces_len] at c0
  obtain ⟨a4, c4, rfl, hc4, hm4, -⟩ := id S4
  have F24 := F3.trans F4
  obtain ⟨s0, k0, k1, -⟩ := (HG2.out.2.up F24).one (i := 0) rfl
  obtain ⟨s1, m0, m1, -⟩ := (HG2.out.2.up F24).one (i := 1) rfl
  obtain ⟨gb, ob, rfl, d0⟩ := sv_cell (HG2.out.1.up F24) k0
  obtain ⟨gb', ob', eg, d1⟩ := sv_cell (HG2.out.1.up F24) m0
  simp only [Option.some.injEq, Addr.mk.injEq] at eg
  obtain ⟨rfl, rfl, -⟩ := eg
  rw [k1] at d0
  rw [m1] at d1
  have HX := Lib.hid (And.intro S4 (And.intro c0 (And.intro hx0 (And.intro hx1 (And.intro F24 (F02.trans F24))))))
  have HT := Lib.hid (tab_up t2 F24)
  rw [hxl] at hc4 ⊢
  simp only [Nat.add_zero, List.length_cons, List.length_nil, Nat.zero_add, Nat.reduceAdd] at d0 d1
  clear S4 c0 hx0 hx1 F24 F02 X4 t2 t3 F3 F4 c1 k1 m1 k0 m0
  go_wp2_with fail
  refine (split_n w4).mono ?_
  rintro e w5 ⟨⟨a5, c5, rfl⟩, F5⟩
  go_wp2_with fail
  refine (mins9_any 0 G9 ss _ w5 (by decide) (HG2.out.1.up (HX.out.2.2.2.2.1.trans F5)) (HG2.out.2.up (HX.out.2.2.2.2.1.trans F5))).mono ?_
  rintro e w6 ⟨⟨rfl, o6⟩, F6⟩
  rw [show G9.length = 2 from rfl, k9_mins] at *
  have HF6 := Lib.hid (And.intro F5 F6)
  have I6 : Sq fI w6 (.slice (some ⟨w5.heap.size, 0, none⟩) 2 2) [0, 2] := o6.sq fI_lays (by decide)
  generalize w5.heap.size = q5 at *
  clear o6 F5 F6
  go_wp2_with fail
  have E7 := (Fr.refl [] w6).alloc (.cells #[.int .i64 0, .int .i64 2] 3)
  have I7 : Sq fI _ (.slice (some ⟨w6.heap.size, 0, none⟩) 2 2) [0, 2] := Sq.block (Go.heap_alloc_new w6 (.cells #[.int .i64 0, .int .i64 2] 3)) rfl rfl (Nat.le_refl _) (by simp [maxLen])
  have I6' := I6.up E7
  have HE7 := Lib.hid E7
  clear E7 I6
  generalize World.alloc w6 _ = w7 at *
  generalize w6.heap.size = q6 at *
  refine (sameI_any [0, 2] [0, 2] _ _ w7 (by decide) (by decide) I6' I7).mono ?_
  rintro e w8 ⟨rfl, F8⟩
  have F48 := (HF6.out.1.trans HF6.out.2).trans (HE7.out.trans F8)
  obtain ⟨gx, ox, rfl, f0, -, f2, f3, -, -, -, -, f8⟩ := ch_at (HX.out.1.up F48) HX.out.2.2.1
  obtain ⟨gx', ox', ex, h0, h1, -, h3, -⟩ := ch_at (HX.out.1.up F48) HX.out.2.2.2.1
  simp only [Option.some.injEq, Addr.mk.injEq] at ex
  obtain ⟨rfl, rfl, -⟩ := ex
  obtain ⟨gz, oz, rfl, w0, w1', w2'⟩ := ce_cells (HX.out.2.1.up F48) (i := 1) (x := ⟨5, 1, 0⟩) (by decide +kernel)
  have HFF := Lib.hid (HX.out.2.2.2.2.2.trans F48)
  have hce := ce_eql ⟨5, 1, 0⟩ ⟨5, 1, 0⟩ w8
  have hgd := ceGuard9
  unfold hdOf at *
  unfold Sv.v at f8
  simp only [Nat.zero_mul, Nat.add_zero, Nat.one_mul, ces_len] at f0 f2 f3 f8 h0 h1 h3 w0 w1' w2'
  clear I6' I7 F8 F48
  go_wp2_with fail
  go_ret
  exact ⟨rfl, HFF.out⟩
end Go.Proofs.YtdnilnjlbobcmaaDoor.Gp
/- Maps from numbers to numbers that a call makes: what they hold, as a function of the key. -/

namespace Go.Proofs.YtdnilnjlbobcmaaDoor.Ar
open Go.RowKit Go.Maps
theorem intKey : Keyed Tryd.prog 3 := int_keyed Tryd.underlying3
/-- D holds just what g tells. -/
def Holds (D : DataW Unit) (g : Int → Option Int) : Prop :=
  IsMap D ∧ ∀ k : Int, Maps.has D (.int .i64 k) = (g k).isSome ∧ ∀ v, g k = some v → ∀ zd, D.atKey (.int .i64 k) zd = .lit (.int .i64 v)
/-- Block b is a map of at most n numbers that holds what g tells. -/
def IMap (w : World) (b n : Nat) (g : Int → Option Int) : Prop := ∃ D, w.ownsMap Tryd.prog 3 (plainElem (H := Unit) Tryd.prog 3) b n D ∧ Holds D g
theorem holds_empty : Holds (.map []) (fun _ => none) := ⟨isMap_empty, fun k => ⟨rfl, fun v h => by cases h⟩⟩
theorem Holds.put {D : DataW Unit} {g : Int → Option Int} (h : Holds D g) (k v : Int) : Holds (D.put (.int .i64 k) (.lit (.int .i64 v))) (fun x => if x = k then some v else g x) := by
  obtain ⟨hm, hg⟩ := h
  refine ⟨hm.put _ _, fun x => ?_⟩
  by_cases hx : x = k
  · subst hx
    have hk : WideAt.IsKeyLit (.int .i64 x) := trivial
    exact ⟨by rw [has_put_same hm hk]; simp, fun u hu zd => by simp at hu; subst hu; exact atKey_put_same hm hk _ _⟩
  · have hne : (Lit.int .i64 x) ≠ Lit.int .i64 k := fun e => hx (by cases e; rfl)
    simp only [if_neg hx]
    rw [has_put_other hne]
    exact ⟨(hg x).1, fun u hu zd => by rw [atKey_put_other hne]; exact (hg x).2 u hu zd⟩
theorem IMap.made (w : World) : IMap (w.alloc (.map #[] 0)) w.heap.size 0 (fun _ => none) := ⟨_, World.ownsMap_made w _ _ _, holds_empty⟩
theorem IMap.kept {w w' : World} {b n : Nat} {g : Int → Option Int} {S : List Nat} (h : IMap w b n g) (f : Fr S w w') (hb : b ∉ S) : IMap w' b n g := by
  obtain ⟨D, ⟨es, clock, h1, h2⟩, hD⟩ := h
  exact ⟨D, ⟨es, clock, f.heap h1 hb, h2⟩, hD⟩
theorem IMap.lt {w : World} {b n : Nat} {g : Int → Option Int} (h : IMap w b n g) : b < w.heap.size := by
  obtain ⟨D, h1, _⟩ := h; exact h1.lt
theorem Fr.grownAt {w w' : World} {b : Nat} (h : w.grownBy w' (some b)) : Fr [b] w w' := ⟨h.os, h.tape, h.output, h.size, fun k hk hn => h.block k hk (fun e => hn (by cases e; simp))⟩
end Go.Proofs.YtdnilnjlbobcmaaDoor.Ar
/- Package place: the words that an arena begins with, and the arena. -/

namespace Go.Proofs.YtdnilnjlbobcmaaDoor.Pl
open Go.RowKit Go.Proofs.YtdnilnjlbobcmaaDoor.Ar
theorem lt_max {n : Nat} (h : n < 1000) : n < maxLen := by unfold maxLen; omega
theorem wf_small {k : Int} (h1 : -1000000 ≤ k) (h2 : k ≤ 1000000) : (Lit.int .i64 k).wf = true := WalkArith.wf_i64 (by omega)
/-- The map that firstWords makes. -/
def Firsts (t c : Int) (w : World) (e : Ending) (w' : World) : Prop := ∃ b n g, e = .returned (.map (some b)) ∧ w.heap.size ≤ b ∧ n ≤ 3 ∧ IMap w' b n g ∧ Fr [] w w' ∧
  ∀ k, g k = if k = 2 then some (21 + t + 3 * c) else if k = 7 + t then some (-1) else if k = 9 + t then some (2 * (14 + t)) else none
/-- The arena that a configuration begins with. -/
def begun (t c wd : Int) : St := (((St.fresh wd.toNat).poke 2 (21 + t + 3 * c)).poke (7 + t) (-1)).poke (9 + t) (2 * (14 + t))
theorem St.ext' {s u : St} (hl : s.l.length = u.l.length) (hi : ∀ i, i < s.l.length → nth s.l i = nth u.l i) (hn : s.n = u.n) (ha : s.a = u.a) : s = u := by
  obtain ⟨l, n, a⟩ := s
  obtain ⟨l', n', a'⟩ := u
  simp only at hl hi hn ha
  subst hn; subst ha
  have : l = l' := List.ext_getElem hl fun i h1 h2 => by
    have := hi i h1
    simpa [nth, List.getD_eq_getElem?_getD, h1, h2] using this
  rw [this]
/-- What is laid where, at the beginning. -/
def laidAt (t c : Int) (k : Int) : Int := if k = 2 then 21 + t + 3 * c else if k = 7 + t then -1 else if k = 9 + t then 2 * (14 + t) else 0
theorem begun_nth {t c wd : Int} (h1 : 1 ≤ t) (h2 : t ≤ 8) (h3 : 1 ≤ c) (hw : 21 + t + 3 * c ≤ wd) :
    (begun t c wd).l.length = wd.toNat ∧ (∀ i : Nat, i < wd.toNat → nth (begun t c wd).l i = laidAt t c i) ∧ (begun t c wd).n = 0 ∧ (begun t c wd).a = ⟨0, 0, 0, 0, false⟩ := by
  obtain ⟨n, rfl⟩ := Int.eq_ofNat_of_zero_le (show 0 ≤ wd by omega)
  obtain ⟨m, rfl⟩ := Int.eq_ofNat_of_zero_le (show 0 ≤ t by omega)
  have e7 : (7 : Int) + (m : Int) = ((7 + m : Nat) : Int) := by omega
  have e9 : (9 : Int) + (m : Int) = ((9 + m : Nat) : Int) := by omega
  have e2 : (2 : Int) = ((2 : Nat) : Int) := rfl
  refine ⟨by simp [begun, St.poke, length_poke, St.fresh], fun i hi => ?_, rfl, rfl⟩
  simp only [Int.toNat_natCast] at hi
  have hf : nth (St.fresh (Int.toNat (n : Int))).l i = 0 := by simp [nth, St.fresh, List.getD_eq_getElem?_getD, hi]
  simp only [begun, St.poke, e7, e9]
  rw [nth_poke _ (by simp [length_poke, St.fresh]; omega), nth_poke _ (by simp [length_poke, St.fresh]; omega), e2, nth_poke _ (by simp [St.fresh]; omega), hf, laidAt]
  by_cases a2 : i = 2
  · subst a2
    rw [if_neg (by omega), if_neg (by omega), if_pos rfl]
    exact (if_pos rfl).symm
  by_cases a7 : i = 7 + m
  · subst a7
    rw [if_neg (by omega), if_pos rfl, if_neg (by omega), if_pos (by omega)]
  by_cases a9 : i = 9 + m
  · subst a9
    rw [if_pos rfl, if_neg (by omega), if_neg (by omega), if_pos (by omega)]
    rfl
  · rw [if_neg a9, if_neg a7, if_neg a2, if_neg (by omega), if_neg (by omega), if_neg (by omega)]
theorem begun_peek {t c : Int} {n : Nat} (k : Nat) (h1 : 1 ≤ t) (h2 : t ≤ 8) (h3 : 1 ≤ c) (hw : 21 + t + 3 * c ≤ n) (hk : k < n) : peek (begun t c n).l k = laidAt t c k := by
  obtain ⟨b1, b2, _, _⟩ := begun_nth (wd := n) h1 h2 h3 hw
  simp only [Int.toNat_natCast] at b1 b2
  rw [peek_at (by omega), b2 k hk]
theorem is_of {n : Int} (t c wd v : Int) (h : code t c wd v = n) (w : World) :
    Calls Tryd.prog 29 #[.agg #[.int .i64 t, .int .i64 c, .int .i64 wd, .int .i64 v]] w fun e w' => e = .returned (errv n) ∧ Fr [] w w' := h ▸ is_any t c wd v w
theorem code_cases (t c wd v : Int) : code t c wd v = 0 ∨ code t c wd v = 10 ∨ code t c wd v = 14 := by unfold code; split <;> (try split) <;> simp
/-- What the map holds is what is laid. -/
theorem firsts_laid {t c k v : Int} {g : Int → Option Int} (hg : ∀ k, g k = if k = 2 then some (21 + t + 3 * c) else if k = 7 + t then some (-1) else if k = 9 + t then some (2 * (14 + t)) else none) :
    (g k = some v → v = laidAt t c k ∧ (k = 2 ∨ k = 7 + t ∨ k = 9 + t)) ∧ (g k = none → laidAt t c k = 0) := by
  rw [hg k, laidAt]
  by_cases e1 : k = 2
  · rw [if_pos e1, if_pos e1]; exact ⟨fun h => ⟨(Option.some.inj h).symm, .inl e1⟩, fun h => by cases h⟩
  · rw [if_neg e1, if_neg e1]
    by_cases e2 : k = 7 + t
    · rw [if_pos e2, if_pos e2]; exact ⟨fun h => ⟨(Option.some.inj h).symm, .inr (.inl e2)⟩, fun h => by cases h⟩
    · rw [if_neg e2, if_neg e2]
      by_cases e3 : k = 9 + t
      · rw [if_pos e3, if_pos e3]; exact ⟨fun h => ⟨(Option.some.inj h).symm, .inr (.inr e3)⟩, fun h => by cases h⟩
      · rw [if_neg e3, if_neg e3]; exact ⟨(fun h => by cases h), fun _ => rfl⟩
theorem same_int {a b : Int} : (Lit.int .i64 a).sameKey (.int .i64 b) = decide (a = b) := by
  by_cases h : a = b
  · subst h; simp [Lit.sameKey]
  · rw [Maps.sameKey_ne (fun e => h (by cases e; rfl))]; simp [h]
end Go.Proofs.YtdnilnjlbobcmaaDoor.Pl
/- The reference's places: what each function answers: the same as package place's. -/

namespace Go.Proofs.YtdnilnjlbobcmaaDoor.Ref
open Go.RowKit Go.Proofs.YtdnilnjlbobcmaaDoor.Ar Go.Proofs.YtdnilnjlbobcmaaDoor.Pl
theorem size_any (t c wd v : Int) (h1 : 1 ≤ c) (h2 : c ≤ 16) (w : World) :
    Calls Tryd.prog 22 #[.agg #[.int .i64 t, .int .i64 c, .int .i64 wd, .int .i64 v]] w fun e w' => e = .returned (.int .i64 (7 + 3 * c)) ∧ Fr [] w w' := by
  go_enter Tryd.func22, Tryd.ntmps22
  go_wp2
  go_ret
  exact ⟨rfl, (Fr.refl _ _).alloc _⟩
theorem head_any (t c wd v : Int) (h1 : 1 ≤ t) (h2 : t ≤ 8) (w : World) :
    Calls Tryd.prog 46 #[.agg #[.int .i64 t, .int .i64 c, .int .i64 wd, .int .i64 v]] w fun e w' => e = .returned (.int .i64 (3 + t + 4)) ∧ Fr [] w w' := by
  go_enter Tryd.func46, Tryd.ntmps46
  go_wp2
  go_ret
  exact ⟨rfl, (Fr.refl _ _).alloc _⟩
theorem first_any (t c wd v : Int) (h1 : 1 ≤ t) (h2 : t ≤ 8) (w : World) :
    Calls Tryd.prog 37 #[.agg #[.int .i64 t, .int .i64 c, .int .i64 wd, .int .i64 v]] w fun e w' => e = .returned (.int .i64 (3 + t + 4 + 7)) ∧ Fr [] w w' := by
  go_enter Tryd.func37, Tryd.ntmps37
  go_wp2_with fail
  refine (head_any t c wd v h1 h2 _).mono ?_; rintro e w1 ⟨rfl, F1⟩
  have G := ((Fr.refl [] w).alloc _).trans F1
  clear F1
  go_wp2
  go_ret
  exact ⟨rfl, G⟩
theorem top_any (t c wd v : Int) (h1 : 1 ≤ t) (h2 : t ≤ 8) (h3 : 1 ≤ c) (h4 : c ≤ 16) (w : World) :
    Calls Tryd.prog 26 #[.agg #[.int .i64 t, .int .i64 c, .int .i64 wd, .int .i64 v]] w fun e w' => e = .returned (.int .i64 (21 + t + 3 * c)) ∧ Fr [] w w' := by
  go_enter Tryd.func26, Tryd.ntmps26
  go_wp2_with fail
  obtain ⟨c0, c1, c2, c3⟩ := cells4 (Go.heap_alloc_new w (.cells #[.int .i64 t, .int .i64 c, .int .i64 wd, .int .i64 v] 24))
  have k0 := In.cell c0
  have k1 := In.cell c1
  have k2 := In.cell c2
  have k3 := In.cell c3
  clear c0 c1 c2 c3
  refine wp_region_in (by kernel_rfl) (by kernel_rfl) ?_
  repeat (go_big_quiet_step ((first | (go_at_call 37; exact Calls.in_ (first_any _ _ _ _ h1 h2 _)) | (go_at_call 22; exact Calls.in_ (size_any _ _ _ _ h3 h4 _)))))
  refine wpQuiet_nil ?_
  intro w1 F1
  go_wp2
  go_ret
  exact ⟨ret_eq (by omega), ((Fr.refl [] w).alloc _).trans F1⟩
set_option maxHeartbeats 1600000 in
theorem isConf_form (t c wd v : Int) (h : t < 1 ∨ 8 < t ∨ c < t + 2 ∨ 16 < c ∨ v < 1 ∨ 1048576 < v ∨ wd < 1 ∨ 20000 < wd) (w : World) :
    Calls Tryd.prog 9 #[.agg #[.int .i64 t, .int .i64 c, .int .i64 wd, .int .i64 v]] w fun e w' => e = .returned (.int .i64 10) ∧ Fr [] w w' := by
  by_cases a1 : t < 1
  · clear h
    go_enter Tryd.func9, Tryd.ntmps9
    go_wp2
    go_ret
    exact ⟨rfl, (Fr.refl _ _).alloc _⟩
  by_cases a2 : 8 < t
  · clear h
    have b1 : decide (t < 1) = false := by simpa using a1
    clear a1
    go_enter Tryd.func9, Tryd.ntmps9
    go_wp2
    go_ret
    exact ⟨rfl, (Fr.refl _ _).alloc _⟩
  have b1 : decide (t < 1) = false := by simpa using a1
  have b2 : decide (8 < t) = false := by simpa using a2
  have t1 : 1 ≤ t := by omega
  have t2 : t ≤ 8 := by omega
  clear a1 a2
  by_cases a3 : c < t + 2
  · clear h
    go_enter Tryd.func9, Tryd.ntmps9
    go_wp2
    go_ret
    exact ⟨rfl, (Fr.refl _ _).alloc _⟩
  have b3 : decide (c < t + 2) = false := by simpa using a3
  clear a3
  by_cases a4 : 16 < c
  · clear h
    go_enter Tryd.func9, Tryd.ntmps9
    go_wp2
    go_ret
    exact ⟨rfl, (Fr.refl _ _).alloc _⟩
  have b4 : decide (16 < c) = false := by simpa using a4
  clear a4
  by_cases a5 : v < 1
  · clear h
    go_enter Tryd.func9, Tryd.ntmps9
    go_wp2
    go_ret
    exact ⟨rfl, (Fr.refl _ _).alloc _⟩
  have b5 : decide (v < 1) = false := by simpa using a5
  clear a5
  by_cases a6 : 1048576 < v
  · clear h
    go_enter Tryd.func9, Tryd.ntmps9
    go_wp2
    go_ret
    exact ⟨rfl, (Fr.refl _ _).alloc _⟩
  have b6 : decide (1048576 < v) = false := by simpa using a6
  clear a6
  by_cases a7 : wd < 1
  · clear h
    go_enter Tryd.func9, Tryd.ntmps9
    go_wp2
    go_ret
    exact ⟨rfl, (Fr.refl _ _).alloc _⟩
  have b7 : decide (wd < 1) = false := by simpa using a7
  have a8 : 20000 < wd := by simp at b3 b4 b5 b6 b7; omega
  clear a7 h
  go_enter Tryd.func9, Tryd.ntmps9
  go_wp2
  go_ret
  exact ⟨rfl, (Fr.refl _ _).alloc _⟩
set_option maxHeartbeats 1600000 in
theorem isConf_well (t c wd v : Int) (h : form t c wd v = true) (w : World) :
    Calls Tryd.prog 9 #[.agg #[.int .i64 t, .int .i64 c, .int .i64 wd, .int .i64 v]] w fun e w' => e = .returned (.int .i64 (if 21 + t + 3 * c ≤ wd then 0 else 14)) ∧ Fr [] w w' := by
  obtain ⟨t1, t2, c1, c2, v1, v2, w1, w2⟩ := form_iff.1 h
  have TP := Lib.hid (top_any t c wd v t1 t2 (by omega) c2)
  have b1 : decide (t < 1) = false := by simp; omega
  have b2 : decide (8 < t) = false := by simp; omega
  have b3 : decide (c < t + 2) = false := by simp; omega
  have b4 : decide (16 < c) = false := by simp; omega
  have b5 : decide (v < 1) = false := by simp; omega
  have b6 : decide (1048576 < v) = false := by simp; omega
  have b7 : decide (wd < 1) = false := by simp; omega
  have b8 : decide (20000 < wd) = false := by simp; omega
  clear h c1 c2 v1 v2 w1 w2
  by_cases hf : 21 + t + 3 * c ≤ wd
  all_goals
    first | rw [if_pos hf] | rw [if_neg hf]
    go_enter Tryd.func9, Tryd.ntmps9
    go_wp2_with fail
    obtain ⟨c0, c1, c2, c3⟩ := cells4 (Go.heap_alloc_new w (.cells #[.int .i64 t, .int .i64 c, .int .i64 wd, .int .i64 v] 24))
    have k0 := In.cell c0
    have k1 := In.cell c1
    have k2 := In.cell c2
    have k3 := In.cell c3
    clear c0 c1 c2 c3
    refine wp_region_in (by kernel_rfl) (by kernel_rfl) ?_
    repeat (go_big_quiet_step ((go_at_call 26; exact Calls.in_ (TP.out _))))
    refine wpQuiet_nil ?_
    intro w1 F1
    have G := ((Fr.refl [] w).alloc _).trans F1
    clear F1
    go_wp2
    go_ret
    exact ⟨rfl, G⟩
theorem isConf_any (t c wd v : Int) (w : World) :
    Calls Tryd.prog 9 #[.agg #[.int .i64 t, .int .i64 c, .int .i64 wd, .int .i64 v]] w fun e w' => e = .returned (.int .i64 (code t c wd v)) ∧ Fr [] w w' := by
  cases h : form t c wd v
  · have hn : ¬ form t c wd v = true := by simp [h]
    rw [form_iff] at hn
    rw [code, if_neg (by simp [h])]
    exact isConf_form t c wd v (by omega) w
  · rw [code, if_pos h]; exact isConf_well t c wd v h w
theorem isConf_of {n : Int} (t c wd v : Int) (h : code t c wd v = n) (w : World) :
    Calls Tryd.prog 9 #[.agg #[.int .i64 t, .int .i64 c, .int .i64 wd, .int .i64 v]] w fun e w' => e = .returned (.int .i64 n) ∧ Fr [] w w' := h ▸ isConf_any t c wd v w
theorem held_at (k : Int) (h0 : 0 ≤ k) (h1 : k ≤ 1000000) (w : World) :
    Calls Tryd.prog 45 #[.int .i64 k, .int .i64 0, .int .i64 1073741824] w fun e w' => e = .returned (.int .i64 k) ∧ w = w' := by
  go_enter Tryd.func45, Tryd.ntmps45
  go_wp2
  all_goals
    go_ret
    exact ⟨ret_eq (by omega), rfl⟩
theorem next_any (k : Int) (h0 : 0 ≤ k) (h1 : k ≤ 1000000) (w : World) :
    Calls Tryd.prog 34 #[.int .i64 k, .bool false] w fun e w' => e = .returned (.int .i64 (2 * k)) ∧ w = w' := by
  go_enter Tryd.func34, Tryd.ntmps34
  go_wp2_with fail
  refine (held_at k h0 h1 _).mono ?_; rintro e _ ⟨rfl, rfl⟩
  go_wp2
  go_ret
  exact ⟨ret_eq (by omega), rfl⟩
end Go.Proofs.YtdnilnjlbobcmaaDoor.Ref
/- The reference's Chunks. -/

namespace Go.Proofs.YtdnilnjlbobcmaaDoor.Mx
open Go.RowKit Go.Proofs.YtdnilnjlbobcmaaDoor.Ar Go.Proofs.YtdnilnjlbobcmaaDoor.Vw
set_option linter.unusedVariables false
set_option linter.unusedSimpArgs false
theorem next_in (a : Int) (m : Bool) (w : World) : Calls Tryd.prog 34 #[.int .i64 a, .bool m] w fun e w' => e = .returned (.int .i64 (nextW a m)) ∧ w = w' := next_any a m w
/-- A chunk of the groups, whole. -/
def finH (at_ after sz : Int) (ms : List Int) (n : Nat) (i : Nat) (g : List It) : Hd := ⟨at_ + sz * (i : Int), ms.getD i 0, (g.length : Int), nextW (if i + 1 = n then after else at_ + sz * ((i : Int) + 1)) false, 0, 0, 0, 0⟩
def RDone (w : World) (cap : Nat) (at_ after sz : Int) (ms : List Int) (gs : List (List It)) (xs : List Chs) : Prop := ∀ (i : Nat) (x : Chs) (g : List It), xs[i]? = some x → gs[i]? = some g →
  x.h = finH at_ after sz ms gs.length i g ∧ ∃ q, x.s = ⟨some ⟨q, 0, none⟩, cap, cap⟩ ∧ Ob w q 54 ((cesOf cap g).flatMap fC).toArray
theorem RDone.kept {S : List Nat} {w w' : World} {cap : Nat} {at_ after sz : Int} {ms : List Int} {gs : List (List It)} {xs : List Chs} (h : RDone w cap at_ after sz ms gs xs) (f : Fr S w w') (hS : ∀ b cs, b ∈ S → ¬ Ob w b 54 cs) : RDone w' cap at_ after sz ms gs xs := fun i x g e1 e2 => by
  obtain ⟨h1, q, h2, h4⟩ := h i x g e1 e2
  exact ⟨h1, q, h2, h4.kept f (fun hq => hS q _ hq h4)⟩
theorem RDone.up {w w' : World} {cap : Nat} {at_ after sz : Int} {ms : List Int} {gs : List (List It)} {xs : List Chs} (h : RDone w cap at_ after sz ms gs xs) (f : Fr [] w w') : RDone w' cap at_ after sz ms gs xs := h.kept f (by simp)
theorem rchs_of {w : World} {cap : Nat} {at_ after : Int} {ms : List Int} {gs : List (List It)} {done : List Chs} {c : Cf} (hc : c.c = (cap : Int)) (hcap : cap ≤ 16) (h0 : 0 ≤ at_) (h1 : at_ ≤ 1000000) (hl : gs.length ≤ 1000) (hd : done.length = gs.length) (hm : ms.length = gs.length)
    (hD : RDone w cap at_ after (7 + 3 * (cap : Int)) ms gs done) : ChsIs w done (chunksF c at_ after gs ms) cap := by
  have hsz : sizeP c = 7 + 3 * (cap : Int) := by unfold sizeP; rw [hc]
  refine ⟨by rw [chunksF_length, hd], fun i x n e1 e2 => ?_⟩
  have hi : i < gs.length := by have := (List.getElem?_eq_some_iff.1 e2).1; rw [chunksF_length] at this; exact this
  obtain ⟨g, hg⟩ : ∃ g, gs[i]? = some g := ⟨gs[i], List.getElem?_eq_getElem _⟩
  obtain ⟨m, hmi⟩ : ∃ m, ms[i]? = some m := ⟨ms[i]'(by omega), List.getElem?_eq_getElem _⟩
  obtain ⟨d1, q, d2, d4⟩ := hD i x g e1 hg
  have hmul : sizeP c * (gs.length : Int) ≤ 55 * 1000 := by
    rw [hsz]
    exact Int.mul_le_mul (by omega) (by omega) (by omega) (by omega)
  have hn := chunksF_at (c := c) after (by rw [hsz]; omega) gs at_ ms i g m h0 (by omega) hg hmi
  rw [hn] at e2
  obtain rfl := Option.some.inj e2
  refine ⟨?_, ?_⟩
  · rw [d1]
    unfold finH hdOf
    rw [List.getD_eq_getElem?_getD, hmi, hsz]; rfl
  · have h5 := d4.sq fC_lays (by rw [ces_len]; omega)
    rw [ces_len] at h5
    rw [d2]; exact h5
theorem next_fin {AT at_ i cap : Int} (hA : AT = at_ + (7 + 3 * cap) * i) (h0 : 0 ≤ at_) (h1 : at_ ≤ 1000000) (h2 : 0 ≤ i) (h3 : i ≤ 1000) (h4 : 0 ≤ cap) (h5 : cap ≤ 16) : wrap64 (AT + (7 + 3 * cap)) = at_ + (7 + 3 * cap) * (i + 1) := by
  have h6 : 0 ≤ (7 + 3 * cap) * i := Int.mul_nonneg (by omega) h2
  have h7 : (7 + 3 * cap) * i ≤ (7 + 3 * cap) * 1000 := Int.mul_le_mul_of_nonneg_left h3 (by omega)
  rw [hA, w64 (by omega) (by omega), Int.mul_add]; omega
/-- Where the outer, the inner loop stand. -/
def Ro9 (w : World) (cap : Nat) (at_ after sz : Int) (ms : List Int) (gs : List (List It)) (u x : Value) (wr : World) : Prop := ∃ (i : Nat) (done : List Chs), i ≤ gs.length ∧ x = .int .i64 (i : Nat) ∧ done.length = i ∧
  wr.ownsRow w.heap.size 40 9 u done.length (done.flatMap fH) ∧ RDone wr cap at_ after sz ms gs done ∧ ((gs.all fun g => decide ((g.length : Int) ≤ (cap : Int))) = (gs.drop i).all fun g => decide ((g.length : Int) ≤ (cap : Int))) ∧ Fr [] w wr
def Ri9 (w : World) (q : Nat) (ces : List Ce) (n : Nat) (x : Value) (wr : World) : Prop := ∃ j : Nat, j ≤ n ∧ x = .int .i64 (j : Nat) ∧ Ob wr q 54 ((fillL ces zCe j).flatMap fC).toArray ∧ Fr [q] w wr
theorem allR_step (c : Int) {gs : List (List It)} {i : Nat} {g : List It} (h : gs[i]? = some g) : ((gs.drop i).all fun g => decide ((g.length : Int) ≤ c)) = (decide ((g.length : Int) ≤ c) && ((gs.drop (i + 1)).all fun g => decide ((g.length : Int) ≤ c))) := by
  obtain ⟨h1, rfl⟩ := List.getElem?_eq_some_iff.1 h
  rw [List.drop_eq_getElem_cons h1, List.all_cons]
theorem ces_tail {cap : Nat} {g : List It} (h : g.length ≤ cap) : fillL (cesOf cap g) zCe g.length = cesOf cap g := by
  apply List.ext_getElem?
  intro j
  by_cases h1 : j < g.length
  · exact fill_done zCe h1 (by rw [ces_len]; omega)
  · by_cases h2 : j < cap
    · rw [ces_at h2, List.getElem?_eq_none (by omega : g.length ≤ j)]
      unfold fillL
      rw [List.getElem?_append_right (by rw [List.length_take, ces_len]; omega), List.getElem?_replicate, if_pos (by rw [List.length_take, ces_len]; omega)]; rfl
    · rw [List.getElem?_eq_none (by rw [fill_len _ _ (by rw [ces_len]; exact h), ces_len]; omega), List.getElem?_eq_none (by rw [ces_len]; omega)]
set_option maxRecDepth 100000 in
set_option maxHeartbeats 12800000 in
theorem rchunks_any (c : Cf) (cap : Nat) (at_ after least : Int) (gs : List (List It)) (ss : List Sv) (u : Value) (w : World) (hcap : c.c = (cap : Int)) (hc1 : 1 ≤ cap) (hc16 : cap ≤ 16) (h0 : 0 ≤ at_) (h1 : at_ ≤ 1000000) (hl : gs.length ≤ 1000) (hl2 : gs.flatten.length ≤ 1000) (h : Sq fS w u ss) (hg : Gs w ss gs) :
    Calls Tryd.prog 18 #[c.val, .int .i64 at_, .int .i64 after, .int .i64 least, u] w fun e w' => (∃ r xs, e = .returned r ∧ w'.ownsRow w.heap.size 40 9 r xs.length (xs.flatMap fH) ∧ ChsIs w' xs (chunksT c at_ after least gs) cap) ∧ Fr [] w w' := by
  obtain ⟨ct, cc, cwd, cvs⟩ := c
  obtain rfl : cc = (cap : Int) := hcap
  obtain ⟨av, cv, rfl, hcv, hmv, -⟩ := id h
  have hsl := hg.1
  rw [hsl] at h hcv ⊢
  have HCT := Lib.hid (show chunksT ⟨ct, cap, cwd, cvs⟩ at_ after least gs = if (gs.all fun g => decide ((g.length : Int) ≤ (cap : Int))) = true then chunksF ⟨ct, cap, cwd, cvs⟩ at_ after gs (minsT least gs) else [] from rfl)
  have F0 := (Fr.refl [] w).alloc (.cells #[.int .i64 ct, .int .i64 (cap : Int), .int .i64 cwd, .int .i64 cvs] 24)
  have oc := Ob.new w 24 #[.int .i64 ct, .int .i64 (cap : Int), .int .i64 cwd, .int .i64 cvs]
  have HH := Lib.hid (And.intro h hg)
  clear h hg hsl
  unfold Cf.val
  go_enter Tryd.func18, Tryd.ntmps18
  go_wp2_with fail
  refine (mins_any least gs ss _ _ hl (HH.out.1.up F0) (HH.out.2.up F0)).mono ?_
  rintro e w1 ⟨⟨um, rfl, hm1⟩, F1⟩
  have SM := Sq.own (f := fI) hm1
  have FW1 := F0.trans F1
  have oc1 := oc.up F1
  have hms := minsT_length least gs
  have HMA := Lib.hid (fun i g => @minsT_at least gs i g)
  generalize hmsd : minsT least gs = ms at *
  have HML := Lib.hid (And.intro hms hmsd)
  obtain ⟨am, cm, rfl, hcm, hmm, -⟩ := id SM
  generalize hpc : w.heap.size = pc at oc1 ⊢
  have HPC := Lib.hid hpc
  have HO1 := Lib.hid (And.intro oc1 (And.intro SM FW1))
  clear hms hmsd F0 oc F1 hm1 SM FW1 oc1 hpc
  go_wp2_with fail
  go_loopw [12, 13] (Ro9 w1 cap at_ after (7 + 3 * (cap : Int)) ms gs) (fun _ x _ => gs.length - (intOf x).toNat)
  case atStart => exact ⟨0, [], by omega, rfl, rfl, ⟨rfl, .inl ⟨rfl, rfl⟩⟩, fun i x g e1 => by simp at e1, by simp, Fr.refl _ _⟩
  case round =>
    obtain ⟨i, done, hi, rfl, hdl, hr, hD, hall, F⟩ := hrel
    by_cases hlt : i < gs.length
    · have HI2 := Lib.hid (show i + 1 ≤ gs.length ∧ gs.length - (i + 1) < gs.length - i by omega)
      have hltz : (i : Int) < (gs.length : Int) := by omega
      have hi0 : (0 : Int) ≤ (i : Int) := by omega
      obtain ⟨g, hgi⟩ : ∃ g, gs[i]? = some g := ⟨gs[i], List.getElem?_eq_getElem _⟩
      obtain ⟨m, hmi⟩ : ∃ m, ms[i]? = some m := ⟨_, HMA.out i g hgi⟩
      have FW := HO1.out.2.2.trans F
      obtain ⟨s, hs1, hs2, -⟩ := (HH.out.2.up FW).one hgi
      obtain ⟨gb, ob, rfl, cc0⟩ := sv_cell (HH.out.1.up FW) hs1
      rw [hs2] at cc0
      rw [allR_step cap hgi] at hall
      obtain ⟨c0, c1, c2, c3⟩ := Pl.cells4 (HO1.out.1.up F)
      have HAL := Lib.hid hall
      have HD := Lib.hid (And.intro hr (And.intro hD (And.intro F hdl)))
      have HGI := Lib.hid (And.intro hgi hmi)
      clear hall hr hD F hdl hgi hmi FW
      go_wp2_with fail
      have k0 := In.cell cc0
      have k1 := In.cell c1
      refine wp_region_in (by kernel_rfl) (by kernel_rfl) ?_
      repeat (go_big_quiet_step (fail))
      refine wpQuiet_nil ?_
      intro w2 F2
      clear k0 k1
      by_cases hfit : (cap : Int) < (g.length : Int)
      · have hall := HAL.out
        rw [show decide ((g.length : Int) ≤ (cap : Int)) = false by simpa using hfit, Bool.false_and] at hall
        have HAL2 := Lib.hid hall
        clear hall
        go_wp2_with fail
        go_ret
        have hfin := HCT.out
        rw [HAL2.out] at hfin
        simp only [Bool.false_eq_true, if_false] at hfin
        refine ⟨⟨_, [], rfl, ⟨rfl, .inl ⟨rfl, rfl⟩⟩, ?_⟩, HO1.out.2.2.trans (HD.out.2.2.1.trans F2)⟩
        rw [hfin]; exact ⟨rfl, fun i x n e => by simp at e⟩
      · have hall := HAL.out
        rw [show decide ((g.length : Int) ≤ (cap : Int)) = true by simpa using hfit, Bool.true_and] at hall
        have HAL2 := Lib.hid hall
        have hgl : g.length ≤ cap := by omega
        clear hall c0 c1 c2 c3 cc0
        go_wp2_with fail
        have F12 := HD.out.2.2.1.trans F2
        have HML2 := Lib.hid (show i < ms.length by rw [HML.out.1]; exact hlt)
        have hmlz : (i : Int) < (ms.length : Int) := by have := HML2.out; omega
        obtain ⟨gm, om, eam, cm0⟩ := int_cell (HO1.out.2.1.up F12) HGI.out.2
        have HO2 := Lib.hid (And.intro (HO1.out.1.up F12) (And.intro cm0 (And.intro (HH.out.1.up (HO1.out.2.2.trans F12)) (HH.out.2.up (HO1.out.2.2.trans F12)))))
        clear cm0 F12
        subst eam
        refine wp_region_free (by kernel_rfl) ?_
        refine any_envL [] w2 #[true, true, true, true, true, true, true, true, true, true, true, true, true, true, true, true, true, true, true, true, true, true, false] 22 1 rfl ?_
        refine envL_pass [true, true, true, true, true, true, true, true, true, true, true, true, true, true, true, true, true, true, true, false, false, false, false] 3 (n := 100) (listed' := #[true, true, true, true, true, true, true, true, true, true, true, true, true, true, true, true, true, true, true, false, false, false, false]) rfl (by kernel_rfl) (by kernel_rfl) (by kernel_rfl) (by kernel_rfl) rfl (by kernel_rfl) (fun _ _ d _ _ h => by cases d <;> exact h) ((Fr.refl _ _).drew) ?_
        apply Exists.intro
        refine ⟨fun wf Ff => ?_, ?_⟩
        · obtain ⟨d0, d1, d2, d3⟩ := Pl.cells4 (HO2.out.1.up Ff)
          have j0 := In.cell d0
          have j1 := In.cell d1
          have j2 := In.cell d2
          have j3 := In.cell d3
          have jm := In.cell (Ff.cell HO2.out.2.1 (by simp))
          obtain ⟨s', e1, e2, -⟩ := HO2.out.2.2.2.one HGI.out.1
          rw [hs1] at e1
          obtain rfl := Option.some.inj e1
          obtain ⟨gb', ob', e3, c0⟩ := sv_cell HO2.out.2.2.1 hs1
          simp only [Option.some.injEq, Addr.mk.injEq] at e3
          obtain ⟨rfl, rfl, -⟩ := e3
          rw [e2] at c0
          have jg := In.cell (Ff.cell c0 (by simp))
          clear d0 d1 d2 d3 c0 e2
          simp only [sel]
          repeat (go_big_quiet_step ((first | (go_at_call 22; exact Calls.in_ (Ref.size_any _ _ _ _ (by omega) (by omega) _)) | (go_at_call 34; exact Calls.in_same (next_any _ _ _)))))
          exact wpQuiet_nil rfl
        refine envL_ready [19, 21] (by kernel_rfl) (by simp) (fun w6 F6 mm hm o ho => ?_)
        have G := ((Fr.refl [] w2).drew).trans F6
        clear F6
        simp only [List.mem_cons, List.not_mem_nil, or_false] at hm
        rcases hm with rfl | rfl
        · obtain rfl := Option.some.inj ho
          clear ho
          go_wp2_with (at_make; refine wpList_mk fC_lays rfl _ _ 38 rfl Tryd.underlying38 ceI zCe rfl cap rfl rfl (by omega) (by decide) ?_; intro w7 o7 F7)
          have hq : w.heap.size ≤ w6.heap.size := (HO1.out.2.2.trans (HD.out.2.2.1.trans (F2.trans G))).size
          have hq2 : wr.heap.size ≤ w6.heap.size := (F2.trans G).size
          generalize w6.heap.size = q at *
          replace G := G.trans F7
          clear F7
          refine nx_normal ⟨G, ?_⟩
          refine envL_pass [false, false, false, false, false, false, false, false, false, false, false, false, false, false, false, false, false, false, false, false, true, false, false] 1 (n := 100) (listed' := #[true, true, true, true, true, true, true, true, true, true, true, true, true, true, true, true, true, true, true, true, true, false, false]) rfl (by kernel_rfl) (by kernel_rfl) (by kernel_rfl) (by kernel_rfl) rfl (by kernel_rfl) (fun _ _ d _ _ h => by cases d <;> exact h) G ?_
          apply Exists.intro
          refine ⟨fun wf Ff => ?_, ?_⟩
          · simp only [sel]
            repeat (go_big_quiet_step (fail))
            exact wpQuiet_nil rfl
          refine envL_one 21 (by kernel_rfl) rfl rfl (fun w8 F8 => ?_)
          have o8 := o7.up F8
          replace G := G.trans F8
          clear F8 o7
          go_wp2_with fail
          have F9 := (Fr.refl [] w8).alloc (.cells #[.int .i64 0, .int .i64 0, .int .i64 0, .int .i64 0, .int .i64 0, .int .i64 0, .int .i64 0, .int .i64 0, .slice none 0 0] 40)
          have op := Ob.new w8 40 #[.int .i64 0, .int .i64 0, .int .i64 0, .int .i64 0, .int .i64 0, .int .i64 0, .int .i64 0, .int .i64 0, .slice none 0 0]
          have oq := o8.up F9
          replace G := G.trans F9
          generalize (w8.alloc (.cells #[.int .i64 0, .int .i64 0, .int .i64 0, .int .i64 0, .int .i64 0, .int .i64 0, .int .i64 0, .int .i64 0, .slice none 0 0] 40)) = w9 at *
          have hp : wr.heap.size ≤ w8.heap.size := by have := o8.lt; omega
          generalize w8.heap.size = p at *
          clear F9 o8
          refine nx_normal ⟨G, ?_⟩

          refine envL_tail (k := 22) rfl (by kernel_rfl) (fun w10 F10 => ?_)
          replace op := op.up F10
          replace oq := oq.up F10
          replace G := G.trans F10
          clear F10
          have HA := Lib.hid (at_wrap h0 h1 (show (0 : Int) ≤ (i : Int) by omega) (show (i : Int) ≤ 1000 by omega) (show (0 : Int) ≤ (cap : Int) by omega) (show (cap : Int) ≤ 16 by omega))
          generalize wrap64 (at_ + wrap64 ((i : Int) * (7 + 3 * (cap : Int)))) = AT at *
          generalize wrap64 ((i : Int) * (7 + 3 * (cap : Int))) = A0 at *
          have q0 : w10.cell? ⟨p, 0, none⟩ = some (.int .i64 0) := op.cell rfl
          have q1 : w10.cell? ⟨p, 1, none⟩ = some (.int .i64 0) := op.cell rfl
          have q2 : w10.cell? ⟨p, 2, none⟩ = some (.int .i64 0) := op.cell rfl
          have q3 : w10.cell? ⟨p, 3, none⟩ = some (.int .i64 0) := op.cell rfl
          have q4 : w10.cell? ⟨p, 4, none⟩ = some (.int .i64 0) := op.cell rfl
          have q5 : w10.cell? ⟨p, 5, none⟩ = some (.int .i64 0) := op.cell rfl
          have q6 : w10.cell? ⟨p, 6, none⟩ = some (.int .i64 0) := op.cell rfl
          have q7 : w10.cell? ⟨p, 7, none⟩ = some (.int .i64 0) := op.cell rfl
          have q8 : w10.cell? ⟨p, 8, none⟩ = some (.slice none 0 0) := op.cell rfl
          have zf := op.frozen
          have op1 : Ob w10 p 40 (([zCh] : List Chs).flatMap fH).toArray := op
          have S9 := ob_seg9 op1 (i := 0) rfl ⟨⟨AT, m, g.length, nextW after false, 0, 0, 0, 0⟩, ⟨some ⟨q, 0, none⟩, cap, cap⟩⟩
          simp only [Nat.zero_mul, Nat.zero_add, List.set_cons_zero] at S9
          unfold Sv.v at S9
          have HPQ := Lib.hid (show p ≠ q from op.ne oq (by decide))
          have HS9 := Lib.hid S9
          have FS := fr9 (w := w10) (b := p) 0 1 2 3 4 5 6 7 8 (.int .i64 AT) (.int .i64 m) (.int .i64 g.length) (.int .i64 (nextW after false)) (.int .i64 0) (.int .i64 0) (.int .i64 0) (.int .i64 0) (.slice (some ⟨q, 0, none⟩) cap cap)
          have HQ := Lib.hid (And.intro (oq.kept FS (by simpa using HPQ.out.symm)) (And.intro ((F2.trans G).own FS (by simp; omega)) (And.intro hq (And.intro hp hq2))))
          clear S9 op1 op oq G FS hq hp hq2
          by_cases hlast : i + 1 < gs.length
          · have hlz : (i : Int) + 1 < (gs.length : Int) := by omega
            have HNX := Lib.hid (show nextW (wrap64 (AT + (7 + 3 * (cap : Int)))) false = nextW (if i + 1 = gs.length then after else at_ + (7 + 3 * (cap : Int)) * ((i : Int) + 1)) false by rw [if_neg (by omega), next_fin HA.out h0 h1 (show (0 : Int) ≤ (i : Int) by omega) (show (i : Int) ≤ 1000 by omega) (show (0 : Int) ≤ (cap : Int) by omega) (show (cap : Int) ≤ 16 by omega)])
            clear hlast
            go_wp2_with fail
            generalize hwt : (((((((((w10.setCell ⟨p, 0, none⟩ (.int .i64 AT)).setCell ⟨p, 1, none⟩ (.int .i64 m)).setCell ⟨p, 2, none⟩ (.int .i64 g.length)).setCell ⟨p, 3, none⟩ (.int .i64 (nextW after false))).setCell ⟨p, 4, none⟩ (.int .i64 0)).setCell ⟨p, 5, none⟩ (.int .i64 0)).setCell ⟨p, 6, none⟩ (.int .i64 0)).setCell ⟨p, 7, none⟩ (.int .i64 0)).setCell ⟨p, 8, none⟩ (.slice (some ⟨q, 0, none⟩) cap cap)) = w11 at *
            clear hwt q0 q1 q2 q3 q4 q5 q6 q7 q8 zf

            refine wp_region_free (by kernel_rfl) ?_
            refine any_envL [] w11 #[true, true, true, true, true, true, false, false] 6 2 rfl ?_
            refine envL_pass [true, true, true, true, true, true, false, false] 0 (n := 100) (listed' := #[true, true, true, true, true, true, false, false]) rfl (by kernel_rfl) (by kernel_rfl) (by kernel_rfl) (by kernel_rfl) rfl (by kernel_rfl) (fun _ _ d _ _ h => by cases d <;> exact h) ((Fr.refl _ _).drew) ?_
            apply Exists.intro
            refine ⟨fun wf Ff => ?_, ?_⟩
            · obtain ⟨d0, d1, d2, d3⟩ := Pl.cells4 ((HO1.out.1.up (HD.out.2.2.1.trans HQ.out.2.1)).up Ff)
              have j0 := In.cell d0
              have j1 := In.cell d1
              have j2 := In.cell d2
              have j3 := In.cell d3
              have jp := In.cell (Ff.cell (show w11.cell? ⟨p, 0, none⟩ = some (.int .i64 AT) from HS9.out.cell rfl) (by simp))
              clear d0 d1 d2 d3
              simp only [sel]
              repeat (go_big_quiet_step ((first | (go_at_call 22; exact Calls.in_ (Ref.size_any _ _ _ _ (by omega) (by omega) _)) | (go_at_call 34; exact Calls.in_same (next_any _ _ _)))))
              exact wpQuiet_nil rfl
            refine envL_tail (k := 6) rfl (by kernel_rfl) (fun w5 F5 => ?_)
            have G := ((Fr.refl [] w11).drew).trans F5
            generalize wrap64 (AT + (7 + 3 * (cap : Int))) = AN at *
            generalize nextW AN false = NX at *
            have o5 := HS9.out.up G
            have q3 : w5.cell? ⟨p, 3, none⟩ = some (.int .i64 (nextW after false)) := o5.cell rfl
            have zf := o5.frozen
            have o6 := o5.seg fH_lays (xs := [⟨⟨AT, m, g.length, nextW after false, 0, 0, 0, 0⟩, ⟨some ⟨q, 0, none⟩, cap, cap⟩⟩]) (i := 0) (j := 3) (x' := ⟨⟨AT, m, g.length, NX, 0, 0, 0, 0⟩, ⟨some ⟨q, 0, none⟩, cap, cap⟩⟩) (u := .int .i64 NX) rfl (by decide) rfl
            simp only [Nat.zero_mul, Nat.zero_add, List.set_cons_zero] at o6
            have FS : Fr [p] w5 (w5.setCell ⟨p, 3, none⟩ (.int .i64 NX)) := Fr.setCell _ (List.mem_singleton.2 rfl)
            have HX := Lib.hid (And.intro o6 (And.intro ((HQ.out.1.up G).kept FS (by simpa using HPQ.out.symm)) (((HQ.out.2.1).trans G).own FS (by have := HQ.out.2.2.2.1; simp; omega))))
            clear F5 G o5 o6 FS
            go_wp2_with fail
            generalize (w5.setCell ⟨p, 3, none⟩ (.int .i64 NX)) = w12 at *
            clear q3 zf
            generalize wr = wo at *
            have hqw := HQ.out.2.2.1
            have hgl0 := hgl
            have hqr := HQ.out.2.2.2.2
            have HIN := Lib.hid (fun (W : World) (Fj : Fr [q] w12 W) => (show Fr [] wo W from HX.out.2.2.own Fj (by simp; omega)))
            go_loopw [15] (Ri9 w12 q (cesOf cap g) g.length) (fun x _ => g.length - (intOf x).toNat)
            case atStart => exact ⟨0, by omega, rfl, by rw [fill_zero, ces_len]; exact HX.out.2.1, Fr.refl _ _⟩
            case round =>
              obtain ⟨j, hj, rfl, oj, Fj⟩ := hrel
              have Fwj := HO1.out.2.2.trans (HD.out.2.2.1.trans (HIN.out _ Fj))
              obtain ⟨s', e1, e2, e3⟩ := (HH.out.2.up Fwj).one HGI.out.1
              rw [hs1] at e1
              obtain rfl := Option.some.inj e1
              obtain ⟨gb', ob', e4, c0⟩ := sv_cell (HH.out.1.up Fwj) hs1
              simp only [Option.some.injEq, Addr.mk.injEq] at e4
              obtain ⟨rfl, rfl, -⟩ := e4
              rw [e2] at c0
              have e5 : Sq fT wr (.slice s.a g.length s.c) g := by rw [← e2]; exact e3
              have HFJ := Lib.hid (And.intro oj (And.intro Fj Fwj))
              clear oj Fj Fwj e2 e3
              by_cases hjl : j < g.length
              · have HJ2 := Lib.hid (show j + 1 ≤ g.length ∧ g.length - (j + 1) < g.length - j by omega)
                have hjlz : (j : Int) < (g.length : Int) := by omega
                have hj0 : (0 : Int) ≤ (j : Int) := by omega
                obtain ⟨x, hx⟩ : ∃ x, g[j]? = some x := ⟨g[j], List.getElem?_eq_getElem _⟩
                obtain ⟨gx, ox, ex, x0, x1, x2⟩ := it_cells e5 hx
                have F5 := (Fr.refl [] wr).alloc (.cells #[.int .i64 x.k, .int .i64 x.v, .int .i64 x.d] 43)
                have HO5 := Lib.hid (And.intro (Ob.new wr 43 #[.int .i64 x.k, .int .i64 x.v, .int .i64 x.d]) (And.intro (HFJ.out.1.up F5) (And.intro (HFJ.out.2.1.then F5) (Fr.cell F5 (HFJ.out.2.1.cell (show w12.cell? ⟨p, 8, none⟩ = some (.slice (some ⟨q, 0, none⟩) cap cap) from HX.out.1.cell rfl) (by simpa using HPQ.out)) (by simp)))))
                have HCJ := Lib.hid (show (cesOf cap g)[j]? = some ⟨stateW x.v, x.k, x.d⟩ by rw [ces_at (by omega), hx]; rfl)
                have HCL := Lib.hid (show j < (cesOf cap g).length by rw [ces_len]; omega)
                have hjc : (j : Int) < (cap : Int) := by omega
                clear F5 hx e5
                rw [ex] at c0
                go_wp2_with fail
                generalize (wr.alloc (.cells #[.int .i64 x.k, .int .i64 x.v, .int .i64 x.d] 43)) = w13 at *
                generalize wr.heap.size = pi at *
                clear c0 x0 x1 x2
                refine wp_region_free (by kernel_rfl) ?_
                refine any_envL [] w13 #[true, true, true, true, true, true, true, true, true, true, true, false, false] 11 2 rfl ?_
                refine envL_pass [true, true, true, true, true, true, true, true, true, true, true, false, false] 0 (n := 100) (listed' := #[true, true, true, true, true, true, true, true, true, true, true, false, false]) rfl (by kernel_rfl) (by kernel_rfl) (by kernel_rfl) (by kernel_rfl) rfl (by kernel_rfl) (fun _ _ d _ _ h => by cases d <;> exact h) ((Fr.refl _ _).drew) ?_
                apply Exists.intro
                refine ⟨fun wf Ff => ?_, ?_⟩
                · have of := HO5.out.1.up Ff
                  have j0 := In.cell (of.cell (i := 0) rfl)
                  have j1 := In.cell (of.cell (i := 1) rfl)
                  have j2 := In.cell (of.cell (i := 2) rfl)
                  have j8 := In.cell (Ff.cell HO5.out.2.2.2 (by simp))
                  clear of
                  simp only [sel]
                  repeat (go_big_quiet_step ((go_at_call 35; exact Calls.in_same (state_any _ _))))
                  exact wpQuiet_nil rfl
                refine envL_tail (k := 11) rfl (by kernel_rfl) (fun w14 F14 => ?_)
                have G14 := ((Fr.refl [] w13).drew).trans F14
                have o14 := HO5.out.2.1.up G14
                have hz := fill_at (ms := cesOf cap g) zCe (i := j) HCL.out
                have q0 : w14.cell? ⟨q, j * 3, none⟩ = some (.int .i64 0) := o14.segCell fC_lays (i := j) (j := 0) hz rfl
                have q1 : w14.cell? ⟨q, j * 3 + 1, none⟩ = some (.int .i64 0) := o14.segCell fC_lays (i := j) (j := 1) hz rfl
                have q2 : w14.cell? ⟨q, j * 3 + 2, none⟩ = some (.int .i64 0) := o14.segCell fC_lays (i := j) (j := 2) hz rfl
                have zf := o14.frozen
                generalize stateW x.v = sw at *
                have HR := Lib.hid (And.intro (show Ob _ q 54 ((fillL (cesOf cap g) zCe (j + 1)).flatMap fC).toArray by rw [← fill_set zCe HCJ.out]; exact ob_seg3 o14 hz ⟨sw, x.k, x.d⟩) (show Fr [q] w12 _ from (HO5.out.2.2.1.then G14).trans (fr3c (w := w14) (b := q) (j * 3) (j * 3 + 1) (j * 3 + 2) (.int .i64 sw) (.int .i64 x.k) (.int .i64 x.d))))
                clear F14 G14 o14 hz
                go_wp2_with fail
                go_roundw
                case rel => exact ⟨j + 1, HJ2.out.1, by simp, HR.out.1, HR.out.2⟩
                case measure => exact meas rfl HJ2.out.2
              · have hjlz : ¬ (j : Int) < (g.length : Int) := by omega
                obtain rfl : j = g.length := by omega
                rw [ces_tail hgl0] at HFJ
                have hfj := HIN.out _ HFJ.out.2.1
                have op := HX.out.1.kept HFJ.out.2.1 (by simpa using HPQ.out)
                have p0 : wr.cell? ⟨p, 0, none⟩ = some (.int .i64 AT) := op.cell rfl
                have p1 : wr.cell? ⟨p, 1, none⟩ = some (.int .i64 m) := op.cell rfl
                have p2 : wr.cell? ⟨p, 2, none⟩ = some (.int .i64 g.length) := op.cell rfl
                have p3 : wr.cell? ⟨p, 3, none⟩ = some (.int .i64 NX) := op.cell rfl
                have p4 : wr.cell? ⟨p, 4, none⟩ = some (.int .i64 0) := op.cell rfl
                have p5 : wr.cell? ⟨p, 5, none⟩ = some (.int .i64 0) := op.cell rfl
                have p6 : wr.cell? ⟨p, 6, none⟩ = some (.int .i64 0) := op.cell rfl
                have p7 : wr.cell? ⟨p, 7, none⟩ = some (.int .i64 0) := op.cell rfl
                have p8 : wr.cell? ⟨p, 8, none⟩ = some (.slice (some ⟨q, 0, none⟩) cap cap) := op.cell rfl
                have F5 := (Fr.refl [] wr).alloc (.cells #[.int .i64 AT, .int .i64 m, .int .i64 g.length, .int .i64 NX, .int .i64 0, .int .i64 0, .int .i64 0, .int .i64 0, .slice (some ⟨q, 0, none⟩) cap cap] 40)
                have B5 := Go.heap_alloc_new wr (.cells #[.int .i64 AT, .int .i64 m, .int .i64 g.length, .int .i64 NX, .int .i64 0, .int .i64 0, .int .i64 0, .int .i64 0, .slice (some ⟨q, 0, none⟩) cap cap] 40)
                have r5 := row_keeps (row_keeps HD.out.1 hfj) F5
                have HD5 := Lib.hid (And.intro ((HD.out.2.1.up hfj).up F5) (And.intro ((HD.out.2.2.1.trans hfj).trans F5) (And.intro (HFJ.out.1.up F5) HD.out.2.2.2)))
                have HDL := Lib.hid (show done.length ≤ 1000 by have := HD.out.2.2.2; omega)
                generalize hx9 : (⟨⟨AT, m, g.length, NX, 0, 0, 0, 0⟩, ⟨some ⟨q, 0, none⟩, cap, cap⟩⟩ : Chs) = x9
                have hf9 : ([x9] : List Chs).flatMap fH = [.int .i64 AT, .int .i64 m, .int .i64 g.length, .int .i64 NX, .int .i64 0, .int .i64 0, .int .i64 0, .int .i64 0, .slice (some ⟨q, 0, none⟩) cap cap] := by rw [← hx9]; rfl
                have HX9 := Lib.hid hx9
                clear hx9 op hfj F5 e5
                go_wp2_with (at_builtin; go_loud (refine wpList_appSq fH_lays rfl _ _ 35 rfl Tryd.underlying35 chI rfl (B := w1.heap.size) u12 done rfl r5 _ [x9] rfl (Sq.block B5 hf9 rfl (Nat.le_refl _) (by simp [maxLen])) (by have := HDL.out; simp; omega) (by decide) HD5.out.2.1.size ?_; intro a6 c6 w6 r6 f6; generalize hT : done ++ [x9] = T at r6 ⊢))
                have hra := HD5.out.1.kept f6 (fun b cs hb ho => row_ne r5 ho (by decide) hb)
                have hoq := HD5.out.2.2.1.kept f6 (fun hb => row_ne r5 HD5.out.2.2.1 (by decide) hb)
                have hfw := HD5.out.2.1.own f6 (row_base r5)
                have hdn : RDone w6 cap at_ after (7 + 3 * (cap : Int)) ms gs T := by
                  rw [← hT]
                  intro i2 x2 g2 k1 k2
                  by_cases hid : i2 < done.length
                  · rw [List.getElem?_append_left hid] at k1
                    exact hra i2 x2 g2 k1 k2
                  · have hie : i2 = done.length := by have := (List.getElem?_eq_some_iff.1 k1).1; simp at this; omega
                    subst hie
                    rw [List.getElem?_append_right (Nat.le_refl _), Nat.sub_self] at k1
                    obtain rfl := Option.some.inj k1
                    rw [HD5.out.2.2.2, HGI.out.1] at k2
                    obtain rfl := Option.some.inj k2
                    rw [← HX9.out]
                    refine ⟨?_, q, rfl, hoq⟩
                    unfold finH
                    rw [HD5.out.2.2.2, ← HA.out, ← HNX.out, List.getD_eq_getElem?_getD, HGI.out.2]; rfl
                have HR := Lib.hid (And.intro r6 (And.intro hdn (And.intro hfw (show T.length = i + 1 by rw [← hT]; simp; exact HD5.out.2.2.2))))
                clear hra hoq hfw hdn r6 f6 r5 B5 hT hf9
                go_wp2_with fail
                go_roundw
                case rel => exact ⟨i + 1, T, HI2.out.1, by simp, HR.out.2.2.2, HR.out.1, HR.out.2.1, HAL2.out, HR.out.2.2.1⟩
                case measure => exact meas rfl HI2.out.2
          · have hlz : ¬ (i : Int) + 1 < (gs.length : Int) := by omega
            have HNX := Lib.hid (show nextW after false = nextW (if i + 1 = gs.length then after else at_ + (7 + 3 * (cap : Int)) * ((i : Int) + 1)) false by rw [if_pos (by omega)])
            clear hlast
            go_wp2_with fail
            generalize hwt : (((((((((w10.setCell ⟨p, 0, none⟩ (.int .i64 AT)).setCell ⟨p, 1, none⟩ (.int .i64 m)).setCell ⟨p, 2, none⟩ (.int .i64 g.length)).setCell ⟨p, 3, none⟩ (.int .i64 (nextW after false))).setCell ⟨p, 4, none⟩ (.int .i64 0)).setCell ⟨p, 5, none⟩ (.int .i64 0)).setCell ⟨p, 6, none⟩ (.int .i64 0)).setCell ⟨p, 7, none⟩ (.int .i64 0)).setCell ⟨p, 8, none⟩ (.slice (some ⟨q, 0, none⟩) cap cap)) = w11 at *
            clear hwt q0 q1 q2 q3 q4 q5 q6 q7 q8 zf

            generalize nextW after false = NX at *
            have HX := Lib.hid (And.intro HS9.out (And.intro HQ.out.1 HQ.out.2.1))
            generalize w11 = w12 at *
            generalize wr = wo at *
            have hqw := HQ.out.2.2.1
            have hgl0 := hgl
            have hqr := HQ.out.2.2.2.2
            have HIN := Lib.hid (fun (W : World) (Fj : Fr [q] w12 W) => (show Fr [] wo W from HX.out.2.2.own Fj (by simp; omega)))
            go_loopw [15] (Ri9 w12 q (cesOf cap g) g.length) (fun x _ => g.length - (intOf x).toNat)
            case atStart => exact ⟨0, by omega, rfl, by rw [fill_zero, ces_len]; exact HX.out.2.1, Fr.refl _ _⟩
            case round =>
              obtain ⟨j, hj, rfl, oj, Fj⟩ := hrel
              have Fwj := HO1.out.2.2.trans (HD.out.2.2.1.trans (HIN.out _ Fj))
              obtain ⟨s', e1, e2, e3⟩ := (HH.out.2.up Fwj).one HGI.out.1
              rw [hs1] at e1
              obtain rfl := Option.some.inj e1
              obtain ⟨gb', ob', e4, c0⟩ := sv_cell (HH.out.1.up Fwj) hs1
              simp only [Option.some.injEq, Addr.mk.injEq] at e4
              obtain ⟨rfl, rfl, -⟩ := e4
              rw [e2] at c0
              have e5 : Sq fT wr (.slice s.a g.length s.c) g := by rw [← e2]; exact e3
              have HFJ := Lib.hid (And.intro oj (And.intro Fj Fwj))
              clear oj Fj Fwj e2 e3
              by_cases hjl : j < g.length
              · have HJ2 := Lib.hid (show j + 1 ≤ g.length ∧ g.length - (j + 1) < g.length - j by omega)
                have hjlz : (j : Int) < (g.length : Int) := by omega
                have hj0 : (0 : Int) ≤ (j : Int) := by omega
                obtain ⟨x, hx⟩ : ∃ x, g[j]? = some x := ⟨g[j], List.getElem?_eq_getElem _⟩
                obtain ⟨gx, ox, ex, x0, x1, x2⟩ := it_cells e5 hx
                have F5 := (Fr.refl [] wr).alloc (.cells #[.int .i64 x.k, .int .i64 x.v, .int .i64 x.d] 43)
                have HO5 := Lib.hid (And.intro (Ob.new wr 43 #[.int .i64 x.k, .int .i64 x.v, .int .i64 x.d]) (And.intro (HFJ.out.1.up F5) (And.intro (HFJ.out.2.1.then F5) (Fr.cell F5 (HFJ.out.2.1.cell (show w12.cell? ⟨p, 8, none⟩ = some (.slice (some ⟨q, 0, none⟩) cap cap) from HX.out.1.cell rfl) (by simpa using HPQ.out)) (by simp)))))
                have HCJ := Lib.hid (show (cesOf cap g)[j]? = some ⟨stateW x.v, x.k, x.d⟩ by rw [ces_at (by omega), hx]; rfl)
                have HCL := Lib.hid (show j < (cesOf cap g).length by rw [ces_len]; omega)
                have hjc : (j : Int) < (cap : Int) := by omega
                clear F5 hx e5
                rw [ex] at c0
                go_wp2_with fail
                generalize (wr.alloc (.cells #[.int .i64 x.k, .int .i64 x.v, .int .i64 x.d] 43)) = w13 at *
                generalize wr.heap.size = pi at *
                clear c0 x0 x1 x2
                refine wp_region_free (by kernel_rfl) ?_
                refine any_envL [] w13 #[true, true, true, true, true, true, true, true, true, true, true, false, false] 11 2 rfl ?_
                refine envL_pass [true, true, true, true, true, true, true, true, true, true, true, false, false] 0 (n := 100) (listed' := #[true, true, true, true, true, true, true, true, true, true, true, false, false]) rfl (by kernel_rfl) (by kernel_rfl) (by kernel_rfl) (by kernel_rfl) rfl (by kernel_rfl) (fun _ _ d _ _ h => by cases d <;> exact h) ((Fr.refl _ _).drew) ?_
                apply Exists.intro
                refine ⟨fun wf Ff => ?_, ?_⟩
                · have of := HO5.out.1.up Ff
                  have j0 := In.cell (of.cell (i := 0) rfl)
                  have j1 := In.cell (of.cell (i := 1) rfl)
                  have j2 := In.cell (of.cell (i := 2) rfl)
                  have j8 := In.cell (Ff.cell HO5.out.2.2.2 (by simp))
                  clear of
                  simp only [sel]
                  repeat (go_big_quiet_step ((go_at_call 35; exact Calls.in_same (state_any _ _))))
                  exact wpQuiet_nil rfl
                refine envL_tail (k := 11) rfl (by kernel_rfl) (fun w14 F14 => ?_)
                have G14 := ((Fr.refl [] w13).drew).trans F14
                have o14 := HO5.out.2.1.up G14
                have hz := fill_at (ms := cesOf cap g) zCe (i := j) HCL.out
                have q0 : w14.cell? ⟨q, j * 3, none⟩ = some (.int .i64 0) := o14.segCell fC_lays (i := j) (j := 0) hz rfl
                have q1 : w14.cell? ⟨q, j * 3 + 1, none⟩ = some (.int .i64 0) := o14.segCell fC_lays (i := j) (j := 1) hz rfl
                have q2 : w14.cell? ⟨q, j * 3 + 2, none⟩ = some (.int .i64 0) := o14.segCell fC_lays (i := j) (j := 2) hz rfl
                have zf := o14.frozen
                generalize stateW x.v = sw at *
                have HR := Lib.hid (And.intro (show Ob _ q 54 ((fillL (cesOf cap g) zCe (j + 1)).flatMap fC).toArray by rw [← fill_set zCe HCJ.out]; exact ob_seg3 o14 hz ⟨sw, x.k, x.d⟩) (show Fr [q] w12 _ from (HO5.out.2.2.1.then G14).trans (fr3c (w := w14) (b := q) (j * 3) (j * 3 + 1) (j * 3 + 2) (.int .i64 sw) (.int .i64 x.k) (.int .i64 x.d))))
                clear F14 G14 o14 hz
                go_wp2_with fail
                go_roundw
                case rel => exact ⟨j + 1, HJ2.out.1, by simp, HR.out.1, HR.out.2⟩
                case measure => exact meas rfl HJ2.out.2
              · have hjlz : ¬ (j : Int) < (g.length : Int) := by omega
                obtain rfl : j = g.length := by omega
                rw [ces_tail hgl0] at HFJ
                have hfj := HIN.out _ HFJ.out.2.1
                have op := HX.out.1.kept HFJ.out.2.1 (by simpa using HPQ.out)
                have p0 : wr.cell? ⟨p, 0, none⟩ = some (.int .i64 AT) := op.cell rfl
                have p1 : wr.cell? ⟨p, 1, none⟩ = some (.int .i64 m) := op.cell rfl
                have p2 : wr.cell? ⟨p, 2, none⟩ = some (.int .i64 g.length) := op.cell rfl
                have p3 : wr.cell? ⟨p, 3, none⟩ = some (.int .i64 NX) := op.cell rfl
                have p4 : wr.cell? ⟨p, 4, none⟩ = some (.int .i64 0) := op.cell rfl
                have p5 : wr.cell? ⟨p, 5, none⟩ = some (.int .i64 0) := op.cell rfl
                have p6 : wr.cell? ⟨p, 6, none⟩ = some (.int .i64 0) := op.cell rfl
                have p7 : wr.cell? ⟨p, 7, none⟩ = some (.int .i64 0) := op.cell rfl
                have p8 : wr.cell? ⟨p, 8, none⟩ = some (.slice (some ⟨q, 0, none⟩) cap cap) := op.cell rfl
                have F5 := (Fr.refl [] wr).alloc (.cells #[.int .i64 AT, .int .i64 m, .int .i64 g.length, .int .i64 NX, .int .i64 0, .int .i64 0, .int .i64 0, .int .i64 0, .slice (some ⟨q, 0, none⟩) cap cap] 40)
                have B5 := Go.heap_alloc_new wr (.cells #[.int .i64 AT, .int .i64 m, .int .i64 g.length, .int .i64 NX, .int .i64 0, .int .i64 0, .int .i64 0, .int .i64 0, .slice (some ⟨q, 0, none⟩) cap cap] 40)
                have r5 := row_keeps (row_keeps HD.out.1 hfj) F5
                have HD5 := Lib.hid (And.intro ((HD.out.2.1.up hfj).up F5) (And.intro ((HD.out.2.2.1.trans hfj).trans F5) (And.intro (HFJ.out.1.up F5) HD.out.2.2.2)))
                have HDL := Lib.hid (show done.length ≤ 1000 by have := HD.out.2.2.2; omega)
                generalize hx9 : (⟨⟨AT, m, g.length, NX, 0, 0, 0, 0⟩, ⟨some ⟨q, 0, none⟩, cap, cap⟩⟩ : Chs) = x9
                have hf9 : ([x9] : List Chs).flatMap fH = [.int .i64 AT, .int .i64 m, .int .i64 g.length, .int .i64 NX, .int .i64 0, .int .i64 0, .int .i64 0, .int .i64 0, .slice (some ⟨q, 0, none⟩) cap cap] := by rw [← hx9]; rfl
                have HX9 := Lib.hid hx9
                clear hx9 op hfj F5 e5
                go_wp2_with (at_builtin; go_loud (refine wpList_appSq fH_lays rfl _ _ 35 rfl Tryd.underlying35 chI rfl (B := w1.heap.size) u12 done rfl r5 _ [x9] rfl (Sq.block B5 hf9 rfl (Nat.le_refl _) (by simp [maxLen])) (by have := HDL.out; simp; omega) (by decide) HD5.out.2.1.size ?_; intro a6 c6 w6 r6 f6; generalize hT : done ++ [x9] = T at r6 ⊢))
                have hra := HD5.out.1.kept f6 (fun b cs hb ho => row_ne r5 ho (by decide) hb)
                have hoq := HD5.out.2.2.1.kept f6 (fun hb => row_ne r5 HD5.out.2.2.1 (by decide) hb)
                have hfw := HD5.out.2.1.own f6 (row_base r5)
                have hdn : RDone w6 cap at_ after (7 + 3 * (cap : Int)) ms gs T := by
                  rw [← hT]
                  intro i2 x2 g2 k1 k2
                  by_cases hid : i2 < done.length
                  · rw [List.getElem?_append_left hid] at k1
                    exact hra i2 x2 g2 k1 k2
                  · have hie : i2 = done.length := by have := (List.getElem?_eq_some_iff.1 k1).1; simp at this; omega
                    subst hie
                    rw [List.getElem?_append_right (Nat.le_refl _), Nat.sub_self] at k1
                    obtain rfl := Option.some.inj k1
                    rw [HD5.out.2.2.2, HGI.out.1] at k2
                    obtain rfl := Option.some.inj k2
                    rw [← HX9.out]
                    refine ⟨?_, q, rfl, hoq⟩
                    unfold finH
                    rw [HD5.out.2.2.2, ← HA.out, ← HNX.out, List.getD_eq_getElem?_getD, HGI.out.2]; rfl
                have HR := Lib.hid (And.intro r6 (And.intro hdn (And.intro hfw (show T.length = i + 1 by rw [← hT]; simp; exact HD5.out.2.2.2))))
                clear hra hoq hfw hdn r6 f6 r5 B5 hT hf9
                go_wp2_with fail
                go_roundw
                case rel => exact ⟨i + 1, T, HI2.out.1, by simp, HR.out.2.2.2, HR.out.1, HR.out.2.1, HAL2.out, HR.out.2.2.1⟩
                case measure => exact meas rfl HI2.out.2
        · obtain rfl := Option.some.inj ho
          clear ho
          go_wp2_with fail
          have F9 := (Fr.refl [] w6).alloc (.cells #[.int .i64 0, .int .i64 0, .int .i64 0, .int .i64 0, .int .i64 0, .int .i64 0, .int .i64 0, .int .i64 0, .slice none 0 0] 40)
          have op := Ob.new w6 40 #[.int .i64 0, .int .i64 0, .int .i64 0, .int .i64 0, .int .i64 0, .int .i64 0, .int .i64 0, .int .i64 0, .slice none 0 0]
          have hp : wr.heap.size ≤ w6.heap.size := (F2.trans G).size
          replace G := G.trans F9
          generalize (w6.alloc (.cells #[.int .i64 0, .int .i64 0, .int .i64 0, .int .i64 0, .int .i64 0, .int .i64 0, .int .i64 0, .int .i64 0, .slice none 0 0] 40)) = w8 at *
          generalize w6.heap.size = p at *
          clear F9
          refine nx_normal ⟨G, ?_⟩
          refine envL_one 19 (by kernel_rfl) rfl rfl (fun w5 F5 => ?_)
          replace op := op.up F5
          replace G := G.trans F5
          clear F5
          go_wp2_with (at_make; refine wpList_mk fC_lays rfl _ _ 38 rfl Tryd.underlying38 ceI zCe rfl cap rfl rfl (by omega) (by decide) ?_; intro w7 o7 F7)
          have hq : w.heap.size ≤ w5.heap.size := (HO1.out.2.2.trans (HD.out.2.2.1.trans (F2.trans G))).size
          have hq2 : wr.heap.size ≤ w5.heap.size := (F2.trans G).size
          generalize w5.heap.size = q at *
          replace G := G.trans F7
          replace op := op.up F7
          clear F7
          refine nx_normal ⟨G, ?_⟩
          refine envL_one 20 (by kernel_rfl) rfl rfl (fun w9 F8 => ?_)
          have oq := o7.up F8
          replace op := op.up F8
          replace G := G.trans F8
          clear F8 o7
          go_wp2_with fail
          refine nx_normal ⟨G, ?_⟩

          refine envL_tail (k := 22) rfl (by kernel_rfl) (fun w10 F10 => ?_)
          replace op := op.up F10
          replace oq := oq.up F10
          replace G := G.trans F10
          clear F10
          have HA := Lib.hid (at_wrap h0 h1 (show (0 : Int) ≤ (i : Int) by omega) (show (i : Int) ≤ 1000 by omega) (show (0 : Int) ≤ (cap : Int) by omega) (show (cap : Int) ≤ 16 by omega))
          generalize wrap64 (at_ + wrap64 ((i : Int) * (7 + 3 * (cap : Int)))) = AT at *
          generalize wrap64 ((i : Int) * (7 + 3 * (cap : Int))) = A0 at *
          have q0 : w10.cell? ⟨p, 0, none⟩ = some (.int .i64 0) := op.cell rfl
          have q1 : w10.cell? ⟨p, 1, none⟩ = some (.int .i64 0) := op.cell rfl
          have q2 : w10.cell? ⟨p, 2, none⟩ = some (.int .i64 0) := op.cell rfl
          have q3 : w10.cell? ⟨p, 3, none⟩ = some (.int .i64 0) := op.cell rfl
          have q4 : w10.cell? ⟨p, 4, none⟩ = some (.int .i64 0) := op.cell rfl
          have q5 : w10.cell? ⟨p, 5, none⟩ = some (.int .i64 0) := op.cell rfl
          have q6 : w10.cell? ⟨p, 6, none⟩ = some (.int .i64 0) := op.cell rfl
          have q7 : w10.cell? ⟨p, 7, none⟩ = some (.int .i64 0) := op.cell rfl
          have q8 : w10.cell? ⟨p, 8, none⟩ = some (.slice none 0 0) := op.cell rfl
          have zf := op.frozen
          have op1 : Ob w10 p 40 (([zCh] : List Chs).flatMap fH).toArray := op
          have S9 := ob_seg9 op1 (i := 0) rfl ⟨⟨AT, m, g.length, nextW after false, 0, 0, 0, 0⟩, ⟨some ⟨q, 0, none⟩, cap, cap⟩⟩
          simp only [Nat.zero_mul, Nat.zero_add, List.set_cons_zero] at S9
          unfold Sv.v at S9
          have HPQ := Lib.hid (show p ≠ q from op.ne oq (by decide))
          have HS9 := Lib.hid S9
          have FS := fr9 (w := w10) (b := p) 0 1 2 3 4 5 6 7 8 (.int .i64 AT) (.int .i64 m) (.int .i64 g.length) (.int .i64 (nextW after false)) (.int .i64 0) (.int .i64 0) (.int .i64 0) (.int .i64 0) (.slice (some ⟨q, 0, none⟩) cap cap)
          have HQ := Lib.hid (And.intro (oq.kept FS (by simpa using HPQ.out.symm)) (And.intro ((F2.trans G).own FS (by simp; omega)) (And.intro hq (And.intro hp hq2))))
          clear S9 op1 op oq G FS hq hp hq2
          by_cases hlast : i + 1 < gs.length
          · have hlz : (i : Int) + 1 < (gs.length : Int) := by omega
            have HNX := Lib.hid (show nextW (wrap64 (AT + (7 + 3 * (cap : Int)))) false = nextW (if i + 1 = gs.length then after else at_ + (7 + 3 * (cap : Int)) * ((i : Int) + 1)) false by rw [if_neg (by omega), next_fin HA.out h0 h1 (show (0 : Int) ≤ (i : Int) by omega) (show (i : Int) ≤ 1000 by omega) (show (0 : Int) ≤ (cap : Int) by omega) (show (cap : Int) ≤ 16 by omega)])
            clear hlast
            go_wp2_with fail
            generalize hwt : (((((((((w10.setCell ⟨p, 0, none⟩ (.int .i64 AT)).setCell ⟨p, 1, none⟩ (.int .i64 m)).setCell ⟨p, 2, none⟩ (.int .i64 g.length)).setCell ⟨p, 3, none⟩ (.int .i64 (nextW after false))).setCell ⟨p, 4, none⟩ (.int .i64 0)).setCell ⟨p, 5, none⟩ (.int .i64 0)).setCell ⟨p, 6, none⟩ (.int .i64 0)).setCell ⟨p, 7, none⟩ (.int .i64 0)).setCell ⟨p, 8, none⟩ (.slice (some ⟨q, 0, none⟩) cap cap)) = w11 at *
            clear hwt q0 q1 q2 q3 q4 q5 q6 q7 q8 zf

            refine wp_region_free (by kernel_rfl) ?_
            refine any_envL [] w11 #[true, true, true, true, true, true, false, false] 6 2 rfl ?_
            refine envL_pass [true, true, true, true, true, true, false, false] 0 (n := 100) (listed' := #[true, true, true, true, true, true, false, false]) rfl (by kernel_rfl) (by kernel_rfl) (by kernel_rfl) (by kernel_rfl) rfl (by kernel_rfl) (fun _ _ d _ _ h => by cases d <;> exact h) ((Fr.refl _ _).drew) ?_
            apply Exists.intro
            refine ⟨fun wf Ff => ?_, ?_⟩
            · obtain ⟨d0, d1, d2, d3⟩ := Pl.cells4 ((HO1.out.1.up (HD.out.2.2.1.trans HQ.out.2.1)).up Ff)
              have j0 := In.cell d0
              have j1 := In.cell d1
              have j2 := In.cell d2
              have j3 := In.cell d3
              have jp := In.cell (Ff.cell (show w11.cell? ⟨p, 0, none⟩ = some (.int .i64 AT) from HS9.out.cell rfl) (by simp))
              clear d0 d1 d2 d3
              simp only [sel]
              repeat (go_big_quiet_step ((first | (go_at_call 22; exact Calls.in_ (Ref.size_any _ _ _ _ (by omega) (by omega) _)) | (go_at_call 34; exact Calls.in_same (next_any _ _ _)))))
              exact wpQuiet_nil rfl
            refine envL_tail (k := 6) rfl (by kernel_rfl) (fun w5 F5 => ?_)
            have G := ((Fr.refl [] w11).drew).trans F5
            generalize wrap64 (AT + (7 + 3 * (cap : Int))) = AN at *
            generalize nextW AN false = NX at *
            have o5 := HS9.out.up G
            have q3 : w5.cell? ⟨p, 3, none⟩ = some (.int .i64 (nextW after false)) := o5.cell rfl
            have zf := o5.frozen
            have o6 := o5.seg fH_lays (xs := [⟨⟨AT, m, g.length, nextW after false, 0, 0, 0, 0⟩, ⟨some ⟨q, 0, none⟩, cap, cap⟩⟩]) (i := 0) (j := 3) (x' := ⟨⟨AT, m, g.length, NX, 0, 0, 0, 0⟩, ⟨some ⟨q, 0, none⟩, cap, cap⟩⟩) (u := .int .i64 NX) rfl (by decide) rfl
            simp only [Nat.zero_mul, Nat.zero_add, List.set_cons_zero] at o6
            have FS : Fr [p] w5 (w5.setCell ⟨p, 3, none⟩ (.int .i64 NX)) := Fr.setCell _ (List.mem_singleton.2 rfl)
            have HX := Lib.hid (And.intro o6 (And.intro ((HQ.out.1.up G).kept FS (by simpa using HPQ.out.symm)) (((HQ.out.2.1).trans G).own FS (by have := HQ.out.2.2.2.1; simp; omega))))
            clear F5 G o5 o6 FS
            go_wp2_with fail
            generalize (w5.setCell ⟨p, 3, none⟩ (.int .i64 NX)) = w12 at *
            clear q3 zf
            generalize wr = wo at *
            have hqw := HQ.out.2.2.1
            have hgl0 := hgl
            have hqr := HQ.out.2.2.2.2
            have HIN := Lib.hid (fun (W : World) (Fj : Fr [q] w12 W) => (show Fr [] wo W from HX.out.2.2.own Fj (by simp; omega)))
            go_loopw [15] (Ri9 w12 q (cesOf cap g) g.length) (fun x _ => g.length - (intOf x).toNat)
            case atStart => exact ⟨0, by omega, rfl, by rw [fill_zero, ces_len]; exact HX.out.2.1, Fr.refl _ _⟩
            case round =>
              obtain ⟨j, hj, rfl, oj, Fj⟩ := hrel
              have Fwj := HO1.out.2.2.trans (HD.out.2.2.1.trans (HIN.out _ Fj))
              obtain ⟨s', e1, e2, e3⟩ := (HH.out.2.up Fwj).one HGI.out.1
              rw [hs1] at e1
              obtain rfl := Option.some.inj e1
              obtain ⟨gb', ob', e4, c0⟩ := sv_cell (HH.out.1.up Fwj) hs1
              simp only [Option.some.injEq, Addr.mk.injEq] at e4
              obtain ⟨rfl, rfl, -⟩ := e4
              rw [e2] at c0
              have e5 : Sq fT wr (.slice s.a g.length s.c) g := by rw [← e2]; exact e3
              have HFJ := Lib.hid (And.intro oj (And.intro Fj Fwj))
              clear oj Fj Fwj e2 e3
              by_cases hjl : j < g.length
              · have HJ2 := Lib.hid (show j + 1 ≤ g.length ∧ g.length - (j + 1) < g.length - j by omega)
                have hjlz : (j : Int) < (g.length : Int) := by omega
                have hj0 : (0 : Int) ≤ (j : Int) := by omega
                obtain ⟨x, hx⟩ : ∃ x, g[j]? = some x := ⟨g[j], List.getElem?_eq_getElem _⟩
                obtain ⟨gx, ox, ex, x0, x1, x2⟩ := it_cells e5 hx
                have F5 := (Fr.refl [] wr).alloc (.cells #[.int .i64 x.k, .int .i64 x.v, .int .i64 x.d] 43)
                have HO5 := Lib.hid (And.intro (Ob.new wr 43 #[.int .i64 x.k, .int .i64 x.v, .int .i64 x.d]) (And.intro (HFJ.out.1.up F5) (And.intro (HFJ.out.2.1.then F5) (Fr.cell F5 (HFJ.out.2.1.cell (show w12.cell? ⟨p, 8, none⟩ = some (.slice (some ⟨q, 0, none⟩) cap cap) from HX.out.1.cell rfl) (by simpa using HPQ.out)) (by simp)))))
                have HCJ := Lib.hid (show (cesOf cap g)[j]? = some ⟨stateW x.v, x.k, x.d⟩ by rw [ces_at (by omega), hx]; rfl)
                have HCL := Lib.hid (show j < (cesOf cap g).length by rw [ces_len]; omega)
                have hjc : (j : Int) < (cap : Int) := by omega
                clear F5 hx e5
                rw [ex] at c0
                go_wp2_with fail
                generalize (wr.alloc (.cells #[.int .i64 x.k, .int .i64 x.v, .int .i64 x.d] 43)) = w13 at *
                generalize wr.heap.size = pi at *
                clear c0 x0 x1 x2
                refine wp_region_free (by kernel_rfl) ?_
                refine any_envL [] w13 #[true, true, true, true, true, true, true, true, true, true, true, false, false] 11 2 rfl ?_
                refine envL_pass [true, true, true, true, true, true, true, true, true, true, true, false, false] 0 (n := 100) (listed' := #[true, true, true, true, true, true, true, true, true, true, true, false, false]) rfl (by kernel_rfl) (by kernel_rfl) (by kernel_rfl) (by kernel_rfl) rfl (by kernel_rfl) (fun _ _ d _ _ h => by cases d <;> exact h) ((Fr.refl _ _).drew) ?_
                apply Exists.intro
                refine ⟨fun wf Ff => ?_, ?_⟩
                · have of := HO5.out.1.up Ff
                  have j0 := In.cell (of.cell (i := 0) rfl)
                  have j1 := In.cell (of.cell (i := 1) rfl)
                  have j2 := In.cell (of.cell (i := 2) rfl)
                  have j8 := In.cell (Ff.cell HO5.out.2.2.2 (by simp))
                  clear of
                  simp only [sel]
                  repeat (go_big_quiet_step ((go_at_call 35; exact Calls.in_same (state_any _ _))))
                  exact wpQuiet_nil rfl
                refine envL_tail (k := 11) rfl (by kernel_rfl) (fun w14 F14 => ?_)
                have G14 := ((Fr.refl [] w13).drew).trans F14
                have o14 := HO5.out.2.1.up G14
                have hz := fill_at (ms := cesOf cap g) zCe (i := j) HCL.out
                have q0 : w14.cell? ⟨q, j * 3, none⟩ = some (.int .i64 0) := o14.segCell fC_lays (i := j) (j := 0) hz rfl
                have q1 : w14.cell? ⟨q, j * 3 + 1, none⟩ = some (.int .i64 0) := o14.segCell fC_lays (i := j) (j := 1) hz rfl
                have q2 : w14.cell? ⟨q, j * 3 + 2, none⟩ = some (.int .i64 0) := o14.segCell fC_lays (i := j) (j := 2) hz rfl
                have zf := o14.frozen
                generalize stateW x.v = sw at *
                have HR := Lib.hid (And.intro (show Ob _ q 54 ((fillL (cesOf cap g) zCe (j + 1)).flatMap fC).toArray by rw [← fill_set zCe HCJ.out]; exact ob_seg3 o14 hz ⟨sw, x.k, x.d⟩) (show Fr [q] w12 _ from (HO5.out.2.2.1.then G14).trans (fr3c (w := w14) (b := q) (j * 3) (j * 3 + 1) (j * 3 + 2) (.int .i64 sw) (.int .i64 x.k) (.int .i64 x.d))))
                clear F14 G14 o14 hz
                go_wp2_with fail
                go_roundw
                case rel => exact ⟨j + 1, HJ2.out.1, by simp, HR.out.1, HR.out.2⟩
                case measure => exact meas rfl HJ2.out.2
              · have hjlz : ¬ (j : Int) < (g.length : Int) := by omega
                obtain rfl : j = g.length := by omega
                rw [ces_tail hgl0] at HFJ
                have hfj := HIN.out _ HFJ.out.2.1
                have op := HX.out.1.kept HFJ.out.2.1 (by simpa using HPQ.out)
                have p0 : wr.cell? ⟨p, 0, none⟩ = some (.int .i64 AT) := op.cell rfl
                have p1 : wr.cell? ⟨p, 1, none⟩ = some (.int .i64 m) := op.cell rfl
                have p2 : wr.cell? ⟨p, 2, none⟩ = some (.int .i64 g.length) := op.cell rfl
                have p3 : wr.cell? ⟨p, 3, none⟩ = some (.int .i64 NX) := op.cell rfl
                have p4 : wr.cell? ⟨p, 4, none⟩ = some (.int .i64 0) := op.cell rfl
                have p5 : wr.cell? ⟨p, 5, none⟩ = some (.int .i64 0) := op.cell rfl
                have p6 : wr.cell? ⟨p, 6, none⟩ = some (.int .i64 0) := op.cell rfl
                have p7 : wr.cell? ⟨p, 7, none⟩ = some (.int .i64 0) := op.cell rfl
                have p8 : wr.cell? ⟨p, 8, none⟩ = some (.slice (some ⟨q, 0, none⟩) cap cap) := op.cell rfl
                have F5 := (Fr.refl [] wr).alloc (.cells #[.int .i64 AT, .int .i64 m, .int .i64 g.length, .int .i64 NX, .int .i64 0, .int .i64 0, .int .i64 0, .int .i64 0, .slice (some ⟨q, 0, none⟩) cap cap] 40)
                have B5 := Go.heap_alloc_new wr (.cells #[.int .i64 AT, .int .i64 m, .int .i64 g.length, .int .i64 NX, .int .i64 0, .int .i64 0, .int .i64 0, .int .i64 0, .slice (some ⟨q, 0, none⟩) cap cap] 40)
                have r5 := row_keeps (row_keeps HD.out.1 hfj) F5
                have HD5 := Lib.hid (And.intro ((HD.out.2.1.up hfj).up F5) (And.intro ((HD.out.2.2.1.trans hfj).trans F5) (And.intro (HFJ.out.1.up F5) HD.out.2.2.2)))
                have HDL := Lib.hid (show done.length ≤ 1000 by have := HD.out.2.2.2; omega)
                generalize hx9 : (⟨⟨AT, m, g.length, NX, 0, 0, 0, 0⟩, ⟨some ⟨q, 0, none⟩, cap, cap⟩⟩ : Chs) = x9
                have hf9 : ([x9] : List Chs).flatMap fH = [.int .i64 AT, .int .i64 m, .int .i64 g.length, .int .i64 NX, .int .i64 0, .int .i64 0, .int .i64 0, .int .i64 0, .slice (some ⟨q, 0, none⟩) cap cap] := by rw [← hx9]; rfl
                have HX9 := Lib.hid hx9
                clear hx9 op hfj F5 e5
                go_wp2_with (at_builtin; go_loud (refine wpList_appSq fH_lays rfl _ _ 35 rfl Tryd.underlying35 chI rfl (B := w1.heap.size) u12 done rfl r5 _ [x9] rfl (Sq.block B5 hf9 rfl (Nat.le_refl _) (by simp [maxLen])) (by have := HDL.out; simp; omega) (by decide) HD5.out.2.1.size ?_; intro a6 c6 w6 r6 f6; generalize hT : done ++ [x9] = T at r6 ⊢))
                have hra := HD5.out.1.kept f6 (fun b cs hb ho => row_ne r5 ho (by decide) hb)
                have hoq := HD5.out.2.2.1.kept f6 (fun hb => row_ne r5 HD5.out.2.2.1 (by decide) hb)
                have hfw := HD5.out.2.1.own f6 (row_base r5)
                have hdn : RDone w6 cap at_ after (7 + 3 * (cap : Int)) ms gs T := by
                  rw [← hT]
                  intro i2 x2 g2 k1 k2
                  by_cases hid : i2 < done.length
                  · rw [List.getElem?_append_left hid] at k1
                    exact hra i2 x2 g2 k1 k2
                  · have hie : i2 = done.length := by have := (List.getElem?_eq_some_iff.1 k1).1; simp at this; omega
                    subst hie
                    rw [List.getElem?_append_right (Nat.le_refl _), Nat.sub_self] at k1
                    obtain rfl := Option.some.inj k1
                    rw [HD5.out.2.2.2, HGI.out.1] at k2
                    obtain rfl := Option.some.inj k2
                    rw [← HX9.out]
                    refine ⟨?_, q, rfl, hoq⟩
                    unfold finH
                    rw [HD5.out.2.2.2, ← HA.out, ← HNX.out, List.getD_eq_getElem?_getD, HGI.out.2]; rfl
                have HR := Lib.hid (And.intro r6 (And.intro hdn (And.intro hfw (show T.length = i + 1 by rw [← hT]; simp; exact HD5.out.2.2.2))))
                clear hra hoq hfw hdn r6 f6 r5 B5 hT hf9
                go_wp2_with fail
                go_roundw
                case rel => exact ⟨i + 1, T, HI2.out.1, by simp, HR.out.2.2.2, HR.out.1, HR.out.2.1, HAL2.out, HR.out.2.2.1⟩
                case measure => exact meas rfl HI2.out.2
          · have hlz : ¬ (i : Int) + 1 < (gs.length : Int) := by omega
            have HNX := Lib.hid (show nextW after false = nextW (if i + 1 = gs.length then after else at_ + (7 + 3 * (cap : Int)) * ((i : Int) + 1)) false by rw [if_pos (by omega)])
            clear hlast
            go_wp2_with fail
            generalize hwt : (((((((((w10.setCell ⟨p, 0, none⟩ (.int .i64 AT)).setCell ⟨p, 1, none⟩ (.int .i64 m)).setCell ⟨p, 2, none⟩ (.int .i64 g.length)).setCell ⟨p, 3, none⟩ (.int .i64 (nextW after false))).setCell ⟨p, 4, none⟩ (.int .i64 0)).setCell ⟨p, 5, none⟩ (.int .i64 0)).setCell ⟨p, 6, none⟩ (.int .i64 0)).setCell ⟨p, 7, none⟩ (.int .i64 0)).setCell ⟨p, 8, none⟩ (.slice (some ⟨q, 0, none⟩) cap cap)) = w11 at *
            clear hwt q0 q1 q2 q3 q4 q5 q6 q7 q8 zf

            generalize nextW after false = NX at *
            have HX := Lib.hid (And.intro HS9.out (And.intro HQ.out.1 HQ.out.2.1))
            generalize w11 = w12 at *
            generalize wr = wo at *
            have hqw := HQ.out.2.2.1
            have hgl0 := hgl
            have hqr := HQ.out.2.2.2.2
            have HIN := Lib.hid (fun (W : World) (Fj : Fr [q] w12 W) => (show Fr [] wo W from HX.out.2.2.own Fj (by simp; omega)))
            go_loopw [15] (Ri9 w12 q (cesOf cap g) g.length) (fun x _ => g.length - (intOf x).toNat)
            case atStart => exact ⟨0, by omega, rfl, by rw [fill_zero, ces_len]; exact HX.out.2.1, Fr.refl _ _⟩
            case round =>
              obtain ⟨j, hj, rfl, oj, Fj⟩ := hrel
              have Fwj := HO1.out.2.2.trans (HD.out.2.2.1.trans (HIN.out _ Fj))
              obtain ⟨s', e1, e2, e3⟩ := (HH.out.2.up Fwj).one HGI.out.1
              rw [hs1] at e1
              obtain rfl := Option.some.inj e1
              obtain ⟨gb', ob', e4, c0⟩ := sv_cell (HH.out.1.up Fwj) hs1
              simp only [Option.some.injEq, Addr.mk.injEq] at e4
              obtain ⟨rfl, rfl, -⟩ := e4
              rw [e2] at c0
              have e5 : Sq fT wr (.slice s.a g.length s.c) g := by rw [← e2]; exact e3
              have HFJ := Lib.hid (And.intro oj (And.intro Fj Fwj))
              clear oj Fj Fwj e2 e3
              by_cases hjl : j < g.length
              · have HJ2 := Lib.hid (show j + 1 ≤ g.length ∧ g.length - (j + 1) < g.length - j by omega)
                have hjlz : (j : Int) < (g.length : Int) := by omega
                have hj0 : (0 : Int) ≤ (j : Int) := by omega
                obtain ⟨x, hx⟩ : ∃ x, g[j]? = some x := ⟨g[j], List.getElem?_eq_getElem _⟩
                obtain ⟨gx, ox, ex, x0, x1, x2⟩ := it_cells e5 hx
                have F5 := (Fr.refl [] wr).alloc (.cells #[.int .i64 x.k, .int .i64 x.v, .int .i64 x.d] 43)
                have HO5 := Lib.hid (And.intro (Ob.new wr 43 #[.int .i64 x.k, .int .i64 x.v, .int .i64 x.d]) (And.intro (HFJ.out.1.up F5) (And.intro (HFJ.out.2.1.then F5) (Fr.cell F5 (HFJ.out.2.1.cell (show w12.cell? ⟨p, 8, none⟩ = some (.slice (some ⟨q, 0, none⟩) cap cap) from HX.out.1.cell rfl) (by simpa using HPQ.out)) (by simp)))))
                have HCJ := Lib.hid (show (cesOf cap g)[j]? = some ⟨stateW x.v, x.k, x.d⟩ by rw [ces_at (by omega), hx]; rfl)
                have HCL := Lib.hid (show j < (cesOf cap g).length by rw [ces_len]; omega)
                have hjc : (j : Int) < (cap : Int) := by omega
                clear F5 hx e5
                rw [ex] at c0
                go_wp2_with fail
                generalize (wr.alloc (.cells #[.int .i64 x.k, .int .i64 x.v, .int .i64 x.d] 43)) = w13 at *
                generalize wr.heap.size = pi at *
                clear c0 x0 x1 x2
                refine wp_region_free (by kernel_rfl) ?_
                refine any_envL [] w13 #[true, true, true, true, true, true, true, true, true, true, true, false, false] 11 2 rfl ?_
                refine envL_pass [true, true, true, true, true, true, true, true, true, true, true, false, false] 0 (n := 100) (listed' := #[true, true, true, true, true, true, true, true, true, true, true, false, false]) rfl (by kernel_rfl) (by kernel_rfl) (by kernel_rfl) (by kernel_rfl) rfl (by kernel_rfl) (fun _ _ d _ _ h => by cases d <;> exact h) ((Fr.refl _ _).drew) ?_
                apply Exists.intro
                refine ⟨fun wf Ff => ?_, ?_⟩
                · have of := HO5.out.1.up Ff
                  have j0 := In.cell (of.cell (i := 0) rfl)
                  have j1 := In.cell (of.cell (i := 1) rfl)
                  have j2 := In.cell (of.cell (i := 2) rfl)
                  have j8 := In.cell (Ff.cell HO5.out.2.2.2 (by simp))
                  clear of
                  simp only [sel]
                  repeat (go_big_quiet_step ((go_at_call 35; exact Calls.in_same (state_any _ _))))
                  exact wpQuiet_nil rfl
                refine envL_tail (k := 11) rfl (by kernel_rfl) (fun w14 F14 => ?_)
                have G14 := ((Fr.refl [] w13).drew).trans F14
                have o14 := HO5.out.2.1.up G14
                have hz := fill_at (ms := cesOf cap g) zCe (i := j) HCL.out
                have q0 : w14.cell? ⟨q, j * 3, none⟩ = some (.int .i64 0) := o14.segCell fC_lays (i := j) (j := 0) hz rfl
                have q1 : w14.cell? ⟨q, j * 3 + 1, none⟩ = some (.int .i64 0) := o14.segCell fC_lays (i := j) (j := 1) hz rfl
                have q2 : w14.cell? ⟨q, j * 3 + 2, none⟩ = some (.int .i64 0) := o14.segCell fC_lays (i := j) (j := 2) hz rfl
                have zf := o14.frozen
                generalize stateW x.v = sw at *
                have HR := Lib.hid (And.intro (show Ob _ q 54 ((fillL (cesOf cap g) zCe (j + 1)).flatMap fC).toArray by rw [← fill_set zCe HCJ.out]; exact ob_seg3 o14 hz ⟨sw, x.k, x.d⟩) (show Fr [q] w12 _ from (HO5.out.2.2.1.then G14).trans (fr3c (w := w14) (b := q) (j * 3) (j * 3 + 1) (j * 3 + 2) (.int .i64 sw) (.int .i64 x.k) (.int .i64 x.d))))
                clear F14 G14 o14 hz
                go_wp2_with fail
                go_roundw
                case rel => exact ⟨j + 1, HJ2.out.1, by simp, HR.out.1, HR.out.2⟩
                case measure => exact meas rfl HJ2.out.2
              · have hjlz : ¬ (j : Int) < (g.length : Int) := by omega
                obtain rfl : j = g.length := by omega
                rw [ces_tail hgl0] at HFJ
                have hfj := HIN.out _ HFJ.out.2.1
                have op := HX.out.1.kept HFJ.out.2.1 (by simpa using HPQ.out)
                have p0 : wr.cell? ⟨p, 0, none⟩ = some (.int .i64 AT) := op.cell rfl
                have p1 : wr.cell? ⟨p, 1, none⟩ = some (.int .i64 m) := op.cell rfl
                have p2 : wr.cell? ⟨p, 2, none⟩ = some (.int .i64 g.length) := op.cell rfl
                have p3 : wr.cell? ⟨p, 3, none⟩ = some (.int .i64 NX) := op.cell rfl
                have p4 : wr.cell? ⟨p, 4, none⟩ = some (.int .i64 0) := op.cell rfl
                have p5 : wr.cell? ⟨p, 5, none⟩ = some (.int .i64 0) := op.cell rfl
                have p6 : wr.cell? ⟨p, 6, none⟩ = some (.int .i64 0) := op.cell rfl
                have p7 : wr.cell? ⟨p, 7, none⟩ = some (.int .i64 0) := op.cell rfl
                have p8 : wr.cell? ⟨p, 8, none⟩ = some (.slice (some ⟨q, 0, none⟩) cap cap) := op.cell rfl
                have F5 := (Fr.refl [] wr).alloc (.cells #[.int .i64 AT, .int .i64 m, .int .i64 g.length, .int .i64 NX, .int .i64 0, .int .i64 0, .int .i64 0, .int .i64 0, .slice (some ⟨q, 0, none⟩) cap cap] 40)
                have B5 := Go.heap_alloc_new wr (.cells #[.int .i64 AT, .int .i64 m, .int .i64 g.length, .int .i64 NX, .int .i64 0, .int .i64 0, .int .i64 0, .int .i64 0, .slice (some ⟨q, 0, none⟩) cap cap] 40)
                have r5 := row_keeps (row_keeps HD.out.1 hfj) F5
                have HD5 := Lib.hid (And.intro ((HD.out.2.1.up hfj).up F5) (And.intro ((HD.out.2.2.1.trans hfj).trans F5) (And.intro (HFJ.out.1.up F5) HD.out.2.2.2)))
                have HDL := Lib.hid (show done.length ≤ 1000 by have := HD.out.2.2.2; omega)
                generalize hx9 : (⟨⟨AT, m, g.length, NX, 0, 0, 0, 0⟩, ⟨some ⟨q, 0, none⟩, cap, cap⟩⟩ : Chs) = x9
                have hf9 : ([x9] : List Chs).flatMap fH = [.int .i64 AT, .int .i64 m, .int .i64 g.length, .int .i64 NX, .int .i64 0, .int .i64 0, .int .i64 0, .int .i64 0, .slice (some ⟨q, 0, none⟩) cap cap] := by rw [← hx9]; rfl
                have HX9 := Lib.hid hx9
                clear hx9 op hfj F5 e5
                go_wp2_with (at_builtin; go_loud (refine wpList_appSq fH_lays rfl _ _ 35 rfl Tryd.underlying35 chI rfl (B := w1.heap.size) u12 done rfl r5 _ [x9] rfl (Sq.block B5 hf9 rfl (Nat.le_refl _) (by simp [maxLen])) (by have := HDL.out; simp; omega) (by decide) HD5.out.2.1.size ?_; intro a6 c6 w6 r6 f6; generalize hT : done ++ [x9] = T at r6 ⊢))
                have hra := HD5.out.1.kept f6 (fun b cs hb ho => row_ne r5 ho (by decide) hb)
                have hoq := HD5.out.2.2.1.kept f6 (fun hb => row_ne r5 HD5.out.2.2.1 (by decide) hb)
                have hfw := HD5.out.2.1.own f6 (row_base r5)
                have hdn : RDone w6 cap at_ after (7 + 3 * (cap : Int)) ms gs T := by
                  rw [← hT]
                  intro i2 x2 g2 k1 k2
                  by_cases hid : i2 < done.length
                  · rw [List.getElem?_append_left hid] at k1
                    exact hra i2 x2 g2 k1 k2
                  · have hie : i2 = done.length := by have := (List.getElem?_eq_some_iff.1 k1).1; simp at this; omega
                    subst hie
                    rw [List.getElem?_append_right (Nat.le_refl _), Nat.sub_self] at k1
                    obtain rfl := Option.some.inj k1
                    rw [HD5.out.2.2.2, HGI.out.1] at k2
                    obtain rfl := Option.some.inj k2
                    rw [← HX9.out]
                    refine ⟨?_, q, rfl, hoq⟩
                    unfold finH
                    rw [HD5.out.2.2.2, ← HA.out, ← HNX.out, List.getD_eq_getElem?_getD, HGI.out.2]; rfl
                have HR := Lib.hid (And.intro r6 (And.intro hdn (And.intro hfw (show T.length = i + 1 by rw [← hT]; simp; exact HD5.out.2.2.2))))
                clear hra hoq hfw hdn r6 f6 r5 B5 hT hf9
                go_wp2_with fail
                go_roundw
                case rel => exact ⟨i + 1, T, HI2.out.1, by simp, HR.out.2.2.2, HR.out.1, HR.out.2.1, HAL2.out, HR.out.2.2.1⟩
                case measure => exact meas rfl HI2.out.2
    · obtain rfl : i = gs.length := by omega
      rw [List.drop_length] at hall
      have HR := Lib.hid (And.intro hr (And.intro hD (And.intro hall (And.intro F hdl))))
      clear hr hD hall F hdl
      go_wp2_with fail
      go_ret
      have hfin := HCT.out
      rw [HR.out.2.2.1] at hfin
      simp only [List.all_nil, if_true] at hfin
      refine ⟨⟨_, done, rfl, row_more HR.out.1 HO1.out.2.2.size, ?_⟩, HO1.out.2.2.trans HR.out.2.2.2.1⟩
      rw [hfin]
      exact rchs_of rfl hc16 h0 h1 hl HR.out.2.2.2.2 HML.out.1 HR.out.2.1
end Go.Proofs.YtdnilnjlbobcmaaDoor.Mx
/- The reference's SameChunk, at two chunks that are the same. -/

namespace Go.Proofs.YtdnilnjlbobcmaaDoor.Mx
open Go.RowKit Go.Proofs.YtdnilnjlbobcmaaDoor.Ar Go.Proofs.YtdnilnjlbobcmaaDoor.Vw
set_option linter.unusedVariables false
set_option linter.unusedSimpArgs false
theorem ceGuardM : Tryd.prog.eqGuardType Tryd.prog.depth 54 = false := by kernel_rfl
theorem ce_neqM (x : Ce) (W : World) : (binOp .neq 54 (.agg #[.int .i64 x.s, .int .i64 x.k, .int .i64 x.d]) (.agg #[.int .i64 x.s, .int .i64 x.k, .int .i64 x.d])).run Tryd.prog W = .ok (.bool false) W := by
  rw [ce_neq]; simp
def ScAt (w : World) (n : Nat) (x : Value) (wr : World) : Prop := ∃ i : Nat, i ≤ n ∧ x = .int .i64 (i : Nat) ∧ Fr [] w wr
set_option maxRecDepth 100000 in
set_option maxHeartbeats 6400000 in
theorem samech_any (h : Hd) (cs : List Ce) (u v : Value) (w : World) (hl : cs.length ≤ 1000) (hu : Sq fC w u cs) (hv : Sq fC w v cs) :
    Calls Tryd.prog 19 #[chV h u, chV h v] w fun e w' => e = .returned (.bool true) ∧ Fr [] w w' := by
  obtain ⟨au, cu, rfl, hcu, hmu, -⟩ := id hu
  obtain ⟨av, cv, rfl, hcv, hmv, -⟩ := id hv
  have HS := Lib.hid (And.intro hu hv)
  obtain ⟨a0, a1, a2, a3, a4, a5, a6, a7⟩ := h
  have F1 := (Fr.refl [] w).alloc (.cells (chC ⟨a0, a1, a2, a3, a4, a5, a6, a7⟩ (.slice au cs.length cu)) 40)
  have o1 := Ob.new w 40 (chC ⟨a0, a1, a2, a3, a4, a5, a6, a7⟩ (.slice au cs.length cu))
  have HU := Lib.hid (And.intro F1 o1)
  clear hu hv F1 o1
  unfold chV
  go_enter Tryd.func19, Tryd.ntmps19
  go_wp2_with fail
  have HO := Lib.hid (show ∀ W, Fr [] ((w.alloc (.cells #[.int .i64 a0, .int .i64 a1, .int .i64 a2, .int .i64 a3, .int .i64 a4, .int .i64 a5, .int .i64 a6, .int .i64 a7, .slice au cs.length cu] 40)).alloc (.cells #[.int .i64 a0, .int .i64 a1, .int .i64 a2, .int .i64 a3, .int .i64 a4, .int .i64 a5, .int .i64 a6, .int .i64 a7, .slice av cs.length cv] 40)) W →
      Fr [] w W ∧ W.cell? ⟨w.heap.size, 8, none⟩ = some (.slice au cs.length cu) ∧ W.cell? ⟨w.heap.size + 1, 8, none⟩ = some (.slice av cs.length cv) from fun W F => by
    have o2 := Ob.newAt (sizeA w (.cells #[.int .i64 a0, .int .i64 a1, .int .i64 a2, .int .i64 a3, .int .i64 a4, .int .i64 a5, .int .i64 a6, .int .i64 a7, .slice au cs.length cu] 40)) 40 #[.int .i64 a0, .int .i64 a1, .int .i64 a2, .int .i64 a3, .int .i64 a4, .int .i64 a5, .int .i64 a6, .int .i64 a7, .slice av cs.length cv]
    exact ⟨((HU.out.1.alloc _).trans F), ((HU.out.2.alloc _).up F).cell rfl, (o2.up F).cell rfl⟩)
  generalize ((w.alloc (.cells #[.int .i64 a0, .int .i64 a1, .int .i64 a2, .int .i64 a3, .int .i64 a4, .int .i64 a5, .int .i64 a6, .int .i64 a7, .slice au cs.length cu] 40)).alloc (.cells #[.int .i64 a0, .int .i64 a1, .int .i64 a2, .int .i64 a3, .int .i64 a4, .int .i64 a5, .int .i64 a6, .int .i64 a7, .slice av cs.length cv] 40)) = w1 at *
  generalize w.heap.size + 1 = p2 at *
  generalize hp1 : w.heap.size = p1 at *
  clear hp1 HU
  go_loopw [5] (ScAt w1 cs.length) (fun x _ => cs.length - (intOf x).toNat)
  case atStart => exact ⟨0, by omega, rfl, Fr.refl _ _⟩
  case round =>
    obtain ⟨i, hi, rfl, F⟩ := hrel
    obtain ⟨FW, b1, b2⟩ := HO.out wr F
    by_cases hlt : i < cs.length
    · have HI2 := Lib.hid (show i + 1 ≤ cs.length ∧ cs.length - (i + 1) < cs.length - i by omega)
      have hltz : (i : Int) < (cs.length : Int) := by omega
      have hi0 : (0 : Int) ≤ (i : Int) := by omega
      obtain ⟨x, hx⟩ : ∃ x, cs[i]? = some x := ⟨cs[i], List.getElem?_eq_getElem _⟩
      obtain ⟨gu, ou, rfl, u0, u1, u2⟩ := ce_cells (HS.out.1.up FW) hx
      obtain ⟨gv, ov, rfl, v0, v1, v2⟩ := ce_cells (HS.out.2.up FW) hx
      have hne := fun W => ce_neqM x W
      have hgd := ceGuardM
      have HF := Lib.hid F
      have c1 := In.cell b1
      have c2 := In.cell b2
      have k0 := In.cell u0
      have k1 := In.cell u1
      have k2 := In.cell u2
      have k3 := In.cell v0
      have k4 := In.cell v1
      have k5 := In.cell v2
      clear F FW u0 u1 u2 v0 v1 v2 hx
      go_wp2_with fail
      refine wp_region_in (by kernel_rfl) (by kernel_rfl) ?_
      repeat (go_big_quiet_step (fail))
      refine wpQuiet_nil ?_
      intro w5 F5
      clear c1 c2 k0 k1 k2 k3 k4 k5 hne hgd b1 b2
      go_wp2_with fail
      go_roundw
      case rel => exact ⟨i + 1, HI2.out.1, by simp, HF.out.trans F5⟩
      case measure => exact meas rfl HI2.out.2
    · have hge : ¬ (i : Int) < (cs.length : Int) := by omega
      have HF := Lib.hid FW
      clear F FW
      go_wp2_with fail
      go_ret
      exact ⟨rfl, HF.out⟩
end Go.Proofs.YtdnilnjlbobcmaaDoor.Mx
/- The reference's Items. -/

namespace Go.Proofs.YtdnilnjlbobcmaaDoor.Mx
open Go.RowKit Go.Proofs.YtdnilnjlbobcmaaDoor.Ar Go.Proofs.YtdnilnjlbobcmaaDoor.Vw
set_option linter.unusedVariables false
set_option linter.unusedSimpArgs false
theorem verW_eq (s : Int) : verW s = verV s := rfl
/-- Where the search for items stands. -/
def RtAt (w : World) (cs : List Ce) (u x : Value) (wr : World) : Prop := ∃ i, i ≤ cs.length ∧ x = .int .i64 (i : Nat) ∧ wr.ownsRow w.heap.size 43 3 u (itemsC (cs.take i)).length ((itemsC (cs.take i)).flatMap fT) ∧ Fr [] w wr
set_option maxRecDepth 100000 in
set_option maxHeartbeats 3200000 in
theorem ritems_any (h : Hd) (cs : List Ce) (lv : Value) (w : World) (hl : cs.length ≤ 1000) (hs : Sq fC w lv cs) :
    Calls Tryd.prog 25 #[chV h lv] w fun e w' => (∃ u, e = .returned u ∧ w'.ownsRow w.heap.size 43 3 u (itemsC cs).length ((itemsC cs).flatMap fT)) ∧ Fr [] w w' := by
  obtain ⟨a, cap, rfl, hcap, hmax, -⟩ := id hs
  unfold chV
  have o0 := Ob.new w 40 #[.int .i64 h.at_, .int .i64 h.mn, .int .i64 h.ct, .int .i64 h.nx, .int .i64 h.ld, .int .i64 h.mt, .int .i64 h.rp, .int .i64 h.st, .slice a cs.length cap]
  have F0 := (Fr.refl [] w).alloc (.cells #[.int .i64 h.at_, .int .i64 h.mn, .int .i64 h.ct, .int .i64 h.nx, .int .i64 h.ld, .int .i64 h.mt, .int .i64 h.rp, .int .i64 h.st, .slice a cs.length cap] 40)
  go_enter Tryd.func25, Tryd.ntmps25
  go_wp2_with fail
  have hs0 := hs.up F0
  generalize (w.alloc (.cells #[.int .i64 h.at_, .int .i64 h.mn, .int .i64 h.ct, .int .i64 h.nx, .int .i64 h.ld, .int .i64 h.mt, .int .i64 h.rp, .int .i64 h.st, .slice a cs.length cap] 40)) = w0 at *
  generalize hq0 : w.heap.size = q0 at o0 ⊢
  have HB := Lib.hid (And.intro o0 F0)
  clear o0 F0 hq0
  go_loopw [3, 4] (RtAt w0 cs) (fun _ x _ => cs.length - (intOf x).toNat)
  case atStart => exact ⟨0, by omega, rfl, ⟨rfl, .inl ⟨rfl, rfl⟩⟩, Fr.refl _ _⟩
  case round =>
    obtain ⟨i, hi, rfl, hr, F⟩ := hrel
    have b8 : wr.cell? ⟨q0, 8, none⟩ = some (.slice a cs.length cap) := (HB.out.1.up F).cell rfl
    by_cases hlt : i < cs.length
    · have HI2 := Lib.hid (show i + 1 ≤ cs.length ∧ cs.length - (i + 1) < cs.length - i by omega)
      have hltz : (i : Int) < (cs.length : Int) := by omega
      have hi0 : (0 : Int) ≤ (i : Int) := by omega
      obtain ⟨x, hx⟩ : ∃ x, cs[i]? = some x := ⟨cs[i], List.getElem?_eq_getElem hlt⟩
      obtain ⟨g, off, rfl, d0, d1, d2⟩ := ce_cells (hs0.up F) hx
      have hN := Lib.hid (itemsC_succ hx)
      have hLI := Lib.hid (Nat.le_trans (itemsC_length (cs.take i)) (by rw [List.length_take]; omega : (cs.take i).length ≤ 1000))
      have F1 := (Fr.refl [] wr).alloc (.cells #[.int .i64 x.s, .int .i64 x.k, .int .i64 x.d] 54)
      have o1 := Ob.new wr 54 #[.int .i64 x.s, .int .i64 x.k, .int .i64 x.d]
      have r1 := row_keeps hr F1
      have HF := Lib.hid F
      by_cases h3 : 3 ≤ x.s
      · have HI := Lib.hid (show itemC x = some ⟨x.k, verV x.s, x.d⟩ by unfold itemC; rw [if_pos h3])
        go_wp2_with fail
        have FW := F.trans F1
        generalize (wr.alloc (.cells #[.int .i64 x.s, .int .i64 x.k, .int .i64 x.d] 54)) = w5 at *
        clear hr b8 d0 d1 d2 F F1
        refine wp_region_env (by kernel_rfl) u3.ownBlock.toList (fun w2 F2 => ?_)
        refine env_pass [true, true, true, true, true, true, true, true, true, false, false, false] 3 (n := 33) (listed' := #[true, true, true, true, true, true, true, true, true, false, false, false]) rfl (by kernel_rfl) (by kernel_rfl) (by kernel_rfl) rfl (by kernel_rfl) (fun _ _ d _ _ h => by cases d <;> exact h) (F2.mono (by simp)) ?_
        apply Exists.intro
        refine ⟨fun wf Ff => ?_, ?_⟩
        · have of := Ob.kept o1 Ff (row_ne r1 o1 (by decide))
          have k0 := In.cell (of.cell (i := 0) rfl)
          have k1 := In.cell (of.cell (i := 1) rfl)
          have k2 := In.cell (of.cell (i := 2) rfl)
          clear of
          simp only [sel]
          repeat (go_big_quiet_step ((go_at_call 36; exact Calls.in_same (ver_any _ _))))
          exact wpQuiet_nil rfl
        refine env_one 9 (by kernel_rfl) rfl rfl (fun w3 F3 => ?_)
        have r3 := row_keeps r1 (F2.trans F3)
        have G := FW.trans (F2.trans F3)
        have E := (F2.trans F3).mono (T := u3.ownBlock.toList) (by simp)
        clear r1 F2 F3 o1
        go_wp2_with fail
        have F4 := (Fr.refl [] w3).alloc (.cells #[.int .i64 x.k, .int .i64 (verW x.s), .int .i64 x.d] 43)
        have o4 := Ob.new w3 43 #[.int .i64 x.k, .int .i64 (verW x.s), .int .i64 x.d]
        refine nx_normal ⟨E.then F4, ?_⟩
        refine env_one 10 (by kernel_rfl) rfl rfl (fun w6 F6 => ?_)
        have r6 := row_keeps r3 (F4.trans F6)
        have o6 := o4.up F6
        replace G := G.trans (F4.trans F6)
        replace E := E.then (F4.trans F6)
        clear r3 o4 F4 F6
        go_wp2_with (at_builtin; refine wpList_appSq fT_lays rfl _ _ 22 rfl Tryd.underlying22 itI rfl (B := w0.heap.size) _ _ rfl r6 _ [⟨x.k, verW x.s, x.d⟩] rfl (Sq.block o6 rfl rfl (Nat.le_refl _) (by simp [maxLen])) (by have := hLI.out; simp <;> omega) (by decide) G.size ?_; intro a7 c7 w7 r7 F7; generalize hT : itemsC (cs.take i) ++ [(⟨x.k, verW x.s, x.d⟩ : It)] = T at r7 ⊢)
        refine nx_normal ⟨E.trans F7, ?_⟩
        refine env_one 11 (by kernel_rfl) rfl rfl (fun w8 F8 => ?_)
        have hn : itemsC (cs.take (i + 1)) = T := by rw [hN.out, HI.out, ← hT]; rfl
        have r8 := row_keeps r7 F8
        replace G := (G.own F7 (row_base r6)).trans F8
        replace E := (E.trans F7).then F8
        rw [← hn] at r8 ⊢
        clear r7 r6 o6 F7 F8 hn hT
        go_wp2
        refine nx_normal ⟨E, ?_⟩
        refine env_done (by kernel_rfl) (fun w9 F9 => ?_)
        have r9 := row_keeps r8 F9
        replace G := G.trans F9
        clear r8 F9 E
        go_wp2
        exact ⟨⟨i + 1, by omega, by go_num, r9, G⟩, by simp [intOf]; omega⟩
      · have HI := Lib.hid (show itemsC (cs.take (i + 1)) = itemsC (cs.take i) by rw [hN.out, show itemC x = none by unfold itemC; rw [if_neg h3]]; simp)
        have HR := Lib.hid r1
        have HF2 := Lib.hid (F.trans F1)
        clear hr F F1 r1 o1
        go_wp2_with fail
        go_roundw
        case rel => exact ⟨i + 1, HI2.out.1, by simp, by rw [HI.out]; exact HR.out, HF2.out⟩
        case measure => exact meas rfl HI2.out.2
    · obtain rfl : i = cs.length := by omega
      rw [List.take_length] at hr
      have HR := Lib.hid hr
      have HF := Lib.hid (HB.out.2.trans F)
      have hsz := HB.out.2.size
      clear hr F
      go_wp2_with fail
      go_ret
      exact ⟨⟨_, rfl, row_more HR.out hsz⟩, HF.out⟩
end Go.Proofs.YtdnilnjlbobcmaaDoor.Mx
/- The table of bounds of package word: what a row lists for it is what its cells hold. -/

namespace Go.Proofs.YtdnilnjlbobcmaaDoor.Word
open Go.ChangeShapes Go.WideShapes Go.ChangeAt Go.RowKit
/-- Of a row's list each variable reads as it is listed. -/
theorem laidVars_mem {P : Program} {w : World} {n : String} {d : DataW Unit} : ∀ {l : List (String × DataW Unit)} {ps : List MemPlace}, DataW.LaidVars P w l ps → (n, d) ∈ l →
    ∃ g t cs fuel p, P.globalNamed n = some g ∧ (P.globals[g]?).map (·.type) = some t ∧ w.var? P n = some cs ∧ DataW.trod (fun _ => ()) P w 0 (fun _ => true) false fuel t cs.toList = some (d, p)
  | [], _, _, h => by cases h
  | (a, b) :: r, ps, h, hm => by
    obtain ⟨g, t, cs, fuel, p, q, h1, h2, h3, h4, h5, h6⟩ := h
    rcases List.mem_cons.1 hm with he | he
    · cases he
      exact ⟨g, t, cs, fuel, p, h1, h2, h3, h4⟩
    · exact laidVars_mem h5 he
theorem gBounds : Tryd.prog.globalNamed "armillary/word.bounds" = some 0 := by kernel_rfl
theorem gBoundsType : (Tryd.prog.globals[0]?).map (·.type) = some 94 := by kernel_rfl
theorem cellsPair : Tryd.prog.cellsOf 93 = 2 := by kernel_rfl
theorem cellsInt : Tryd.prog.cellsOf 3 = 1 := by kernel_rfl
theorem two {α : Type} {l : List α} {i : Nat} {x y : α} (h : (l.drop i).take 2 = [x, y]) : l[i]? = some x ∧ l[i + 1]? = some y := by
  have h0 : ((l.drop i).take 2)[0]? = some x := by rw [h]; rfl
  have h1 : ((l.drop i).take 2)[1]? = some y := by rw [h]; rfl
  rw [List.getElem?_take_of_lt (by decide), List.getElem?_drop] at h0 h1
  exact ⟨h0, h1⟩
theorem tab_of {l : List (String × DataW Unit)} {W : World} (hm : ("armillary/word.bounds", Rows.laid_armillary_word_bounds) ∈ l) (h : laidMet Tryd.prog l W) : Tab W := by
  obtain ⟨ps, hv, -, -⟩ := h
  obtain ⟨g, t, cs, fuel, p, hg, ht, hvar, hd⟩ := laidVars_mem hv hm
  obtain rfl := Option.some.inj (gBounds.symm.trans hg)
  obtain rfl := Option.some.inj (gBoundsType.symm.trans ht)
  obtain ⟨xs, m, -, ex, -, hl, hel⟩ := DataW.trod_array Tryd.underlying94 hd
  have e3 : xs.map (·.1) = [Lib.tabData .i64 [0, 1073741824], Lib.tabData .i64 [0, 1073741824], Lib.tabData .i64 [0, 16777212], Lib.tabData .i64 [0, 16777212], Lib.tabData .i64 [0, 1048576], Lib.tabData .i64 [-1, 1048576]] :=
    (DataW.agg.inj (Prod.mk.inj ex).1).symm
  have row : ∀ (i : Nat) (a b : Int), i < 6 → (xs.map (·.1))[i]? = some (Lib.tabData .i64 [a, b]) → cs.toList[i * 2]? = some (.int .i64 a) ∧ cs.toList[i * 2 + 1]? = some (.int .i64 b) := by
    intro i a b hi hx
    have hE := hel i hi
    rw [cellsPair] at hE
    obtain ⟨y, hy⟩ : ∃ y, xs[i]? = some y := ⟨_, List.getElem?_eq_getElem (by omega)⟩
    rw [List.getElem?_map, hy] at hx
    have hy1 : y.1 = Lib.tabData .i64 [a, b] := by simpa using hx
    rw [hy, show y = (Lib.tabData .i64 [a, b], y.2) by rw [← hy1]] at hE
    exact two (Lib.cells_of_tab Tryd.underlying93 Tryd.underlying3 cellsInt cellsPair hE)
  have cell : ∀ (i : Nat), W.cell? ⟨0, i, none⟩ = cs.toList[i]? := fun i => by rw [World.var?_cell gBounds hvar i]; simp
  have r0 := row 0 0 1073741824 (by decide) (by rw [e3]; rfl)
  have r1 := row 1 0 1073741824 (by decide) (by rw [e3]; rfl)
  have r2 := row 2 0 16777212 (by decide) (by rw [e3]; rfl)
  have r3 := row 3 0 16777212 (by decide) (by rw [e3]; rfl)
  have r4 := row 4 0 1048576 (by decide) (by rw [e3]; rfl)
  have r5 := row 5 (-1) 1048576 (by decide) (by rw [e3]; rfl)
  exact ⟨(cell 0).trans r0.1, (cell 1).trans r0.2, (cell 2).trans r1.1, (cell 3).trans r1.2, (cell 4).trans r2.1, (cell 5).trans r2.2, (cell 6).trans r3.1, (cell 7).trans r3.2, (cell 8).trans r4.1, (cell 9).trans r4.2, (cell 10).trans r5.1, (cell 11).trans r5.2⟩
theorem u32 {n : Int} (h : (Lit.int .u32 n).wf = true) : 0 ≤ n ∧ n < 4294967296 := by have := bounds_u32 h; omega
end Go.Proofs.YtdnilnjlbobcmaaDoor.Word
