/- Package chain: the latest item of each key. -/
import Derived.Test.YtkdnhaglfbkhfaaChain6
namespace Go.Proofs.Ytkdnhaglfbkhfaa.Ch
open Go.RowKit Go.Proofs.Ytkdnhaglfbkhfaa.Ar Go.Proofs.Ytkdnhaglfbkhfaa.Mx Go.Proofs.Ytkdnhaglfbkhfaa.Vw
set_option linter.unusedVariables false
set_option linter.unusedSimpArgs false
def itV (x : It) : Value := .agg #[.int .i64 x.k, .int .i64 x.v, .int .i64 x.d]
def zeroItV : Value := .agg #[.int .i64 0, .int .i64 0, .int .i64 0]
theorem zeroIt (W : World) : (zeroValue 73).run Try.prog W = .ok zeroItV W := by kernel_rfl
def mapG (g : Int → Option It) (k : Int) : Option Value := (g k).map itV
theorem mapG_put {g : Int → Option It} {x : It} (h : (g x.k).all (fun y => decide (y.v ≤ x.v)) = true) : (fun k => if k = x.k then some (itV x) else mapG g k) = mapG (latU g x) := by
  funext k; unfold mapG latU; rw [if_pos h]; split <;> rfl
theorem mapG_no {g : Int → Option It} {x : It} (h : ¬ (g x.k).all (fun y => decide (y.v ≤ x.v)) = true) : mapG g = mapG (latU g x) := by
  funext k; unfold mapG latU; rw [if_neg h]
def itsOf (L : List (Hd × List Ce)) : List It := L.flatMap fun y => itemsC y.2
theorem itsOf_succ {L : List (Hd × List Ce)} {i : Nat} {y : Hd × List Ce} (hy : L[i]? = some y) : itsOf (L.take (i + 1)) = itsOf (L.take i) ++ itemsC y.2 := by
  unfold itsOf; rw [List.take_add_one, hy, Option.toList_some, List.flatMap_append]; simp
def LtAt (w : World) (bm : Nat) (L : List (Hd × List Ce)) (x : Value) (wr : World) : Prop := ∃ i, i ≤ L.length ∧ x = .int .i64 (i : Nat) ∧ GMap wr bm (itsOf (L.take i)).length (mapG (latF (itsOf (L.take i)))) ∧ Fr [] w wr
def LuAt (w2 : World) (bm n : Nat) (g : Int → Option It) (its : List It) (x : Value) (wr : World) : Prop := ∃ j, j ≤ its.length ∧ x = .int .i64 (j : Nat) ∧ GMap wr bm (n + j) (mapG ((its.take j).foldl latU g)) ∧ Fr [bm] w2 wr
def LatestMade (w : World) (its : List It) (e : Ending) (w' : World) : Prop := ∃ b, e = .returned (.map (some b)) ∧ w.heap.size ≤ b ∧ GMap w' b its.length (mapG (latF its)) ∧ Fr [] w w'
theorem itsOf_len {L : List (Hd × List Ce)} (h : ∀ y, y ∈ L → y.2.length ≤ 16) : (itsOf L).length ≤ 16 * L.length := by
  induction L with
  | nil => simp [itsOf]
  | cons y r ih =>
    have h1 := ih (fun z hz => h z (List.mem_cons_of_mem _ hz))
    have h2 := h y (by simp)
    have h3 := itemsC_length y.2
    unfold itsOf at h1 ⊢
    rw [List.flatMap_cons, List.length_append, List.length_cons]
    omega
theorem gm_alloc {w : World} {b n : Nat} {g : Int → Option Value} (h : GMap w b n g) (o : Obj) : GMap (w.alloc o) b n g := h.up ((Fr.refl [] w).alloc o)
theorem gm_more {w : World} {b n m : Nat} {g : Int → Option Value} (h : GMap w b n g) (hm : n ≤ m) : GMap w b m g := by
  obtain ⟨D, ⟨es, clock, h1, h2, h3, h4⟩, hD⟩ := h
  exact ⟨D, ⟨es, clock, h1, h2, Nat.le_trans h3 hm, h4⟩, hD⟩
set_option maxRecDepth 100000 in
set_option maxHeartbeats 6400000 in
theorem latest_any (xs : List Kr) (L : List (Hd × List Ce)) (lv : Value) (B : Nat) (w : World) (hs : Sq fK w lv xs) (hC : CkRow w B xs L) (hxl : xs.length ≤ 20000) (hce : ∀ y, y ∈ L → y.2.length ≤ 16) (hwf : ∀ it, it ∈ itsOf L → (Lit.int .i64 it.k).wf = true) :
    Calls Try.prog 27 #[lv] w (LatestMade w (itsOf L)) := by
  obtain ⟨a, cap, rfl, -, -, -⟩ := id hs
  have hmm := @run_makeMap Try.prog
  have m0 := GMap.made w
  have HLEN := Lib.hid hC.len
  have HS := Lib.hid (And.intro hs hC)
  have HCE := Lib.hid (And.intro hce hwf)
  clear hs hC hce hwf
  go_enter Try.func27, Try.ntmps27
  go_wp2_with fail
  clear hmm
  have F0 := (Fr.refl [] w).alloc (.map #[] 0)
  generalize (World.alloc w (.map #[] 0)) = w1 at *
  have hbm : w.heap.size ≤ w.heap.size := Nat.le_refl _
  generalize hbm2 : w.heap.size = bm at m0 hbm ⊢
  have HBM := Lib.hid hbm2
  clear hbm2
  go_loopw [13] (fun u wr => LtAt w bm L u wr) (fun u _ => xs.length - (RowKit.intOf u).toNat)
  case atStart => exact ⟨0, Nat.zero_le _, rfl, m0, F0⟩
  case round =>
    obtain ⟨i, hi, rfl, hG, F⟩ := hrel
    rw [← HLEN.out] at hi
    by_cases hlt : i < xs.length
    · obtain ⟨x, hx⟩ : ∃ x, xs[i]? = some x := ⟨xs[i], List.getElem?_eq_getElem hlt⟩
      obtain ⟨y, hy⟩ : ∃ y, L[i]? = some y := ⟨L[i]'(by rw [← HLEN.out]; exact hlt), List.getElem?_eq_getElem _⟩
      have FS := Fr.refl [] w
      have FA := Lib.hid (F.alloc (.cells #[.int .i64 x.hd.at_, .int .i64 x.hd.mn, .int .i64 x.hd.ct, .int .i64 x.hd.nx, .int .i64 x.hd.ld, .int .i64 x.hd.mt, .int .i64 x.hd.rp, .int .i64 x.hd.st, .slice (some ⟨x.b, 0, none⟩) x.n x.n] 63))
      have hck := (HS.out.2.each i x y hx hy).ch (HCE.out.1 y (List.mem_of_getElem? hy))
      have HI := Lib.hid (items_any y.1 y.2 (chV x.hd x.lv) (wr.alloc (.cells #[.int .i64 x.hd.at_, .int .i64 x.hd.mn, .int .i64 x.hd.ct, .int .i64 x.hd.nx, .int .i64 x.hd.ld, .int .i64 x.hd.mt, .int .i64 x.hd.rp, .int .i64 x.hd.st, .slice (some ⟨x.b, 0, none⟩) x.n x.n] 63)) (by have := HCE.out.1 y (List.mem_of_getElem? hy); omega) (hck.up FA.out))
      obtain ⟨g, off, rfl, d0, d1, d2, d3, d4, d5, d6, d7, d8⟩ := kr_cells (HS.out.1.up F) hx
      have hN := itsOf_succ hy
      have hil := itemsC_length y.2
      have hwf : ∀ it, it ∈ itemsC y.2 → (Lit.int .i64 it.k).wf = true := fun it hit => HCE.out.2 it (List.mem_flatMap.2 ⟨y, List.mem_of_getElem? hy, hit⟩)
      have hlb : (itsOf (L.take i)).length ≤ 320000 := by
        have := itsOf_len (L := L.take i) (fun z hz => HCE.out.1 z (List.mem_of_mem_take hz))
        rw [List.length_take] at this; have := HLEN.out; omega
      have hil2 := HCE.out.1 y (List.mem_of_getElem? hy)
      generalize itemsC y.2 = its at *
      have HN := Lib.hid (And.intro hN (And.intro hwf (And.intro hlb (Nat.le_trans hil hil2))))
      have HX := Lib.hid (And.intro hx hy)
      clear hN hil hil2 hwf hlb hck hx hy FS
      have hG1 := hG.up ((Fr.refl [] wr).alloc (.cells #[.int .i64 x.hd.at_, .int .i64 x.hd.mn, .int .i64 x.hd.ct, .int .i64 x.hd.nx, .int .i64 x.hd.ld, .int .i64 x.hd.mt, .int .i64 x.hd.rp, .int .i64 x.hd.st, .slice (some ⟨x.b, 0, none⟩) x.n x.n] 63))
      clear hG
      go_wp2_with fail
      refine HI.out.mono ?_; rintro e w2 ⟨⟨u, rfl, hr⟩, F2⟩
      have hG2 := hG1.up F2
      have F3 := Lib.hid (FA.out.trans F2)
      clear hG1 F2 HI d0 d1 d2 d3 d4 d5 d6 d7 d8 F
      have hlt2 := hG2.lt
      have hrs := Lib.hid (Sq.own hr)
      have hne : bm ∉ u.ownBlock.toList := by obtain ⟨es, ck, he⟩ := hG2.is_map; exact row_ne_map hr he
      obtain ⟨a', cap', rfl, -, -⟩ := row_cell hr
      have HNE := Lib.hid hne
      clear hr hne
      generalize hg0 : latF (itsOf (L.take i)) = g0 at *
      generalize hn0 : (itsOf (L.take i)).length = n0 at *
      have HG0 := Lib.hid (And.intro hg0 hn0)
      clear hg0 hn0
      go_wp2_with fail
      have hb16 : its.length ≤ 16 := HN.out.2.2.2
      go_loopw [20] (fun u wr => LuAt w2 bm n0 g0 its u wr) (fun u _ => its.length - (RowKit.intOf u).toNat)
      case atStart => exact ⟨0, Nat.zero_le _, rfl, hG2, Fr.refl _ _⟩
      case round =>
        obtain ⟨j, hj, rfl, hG, F⟩ := hrel
        by_cases hlt3 : j < its.length
        · obtain ⟨z, hz⟩ : ∃ z, its[j]? = some z := ⟨its[j], List.getElem?_eq_getElem hlt3⟩
          obtain ⟨g', off', rfl, e0, e1, e2⟩ := it_cells (hrs.out.kept F (by intro g hg hb; simp at hb; subst hb; exact HNE.out hg)) hz
          have hst : (its.take (j + 1)).foldl latU g0 = latU ((its.take j).foldl latU g0) z := by
            rw [List.take_add_one, hz, Option.toList_some, List.foldl_append]; rfl
          generalize (its.take j).foldl latU g0 = gj at *
          have hkw := HN.out.2.1 z (List.mem_of_getElem? hz)
          have HZ := Lib.hid (And.intro hz (And.intro hst hkw))
          clear hz hst
          have F5 := (Fr.refl [] wr).alloc (.cells #[.int .i64 z.k, .int .i64 z.v, .int .i64 z.d] 73)
          have hlk := GMap.look (hG.up F5) Try.underlying66 (zeroIt _) hkw true
          clear hkw
          cases hgz : gj z.k with
          | none =>
            have hall : (gj z.k).all (fun y => decide (y.v ≤ z.v)) = true := by rw [hgz]; rfl
            rw [if_pos rfl, show (mapG gj z.k).getD zeroItV = .agg #[.int .i64 0, .int .i64 0, .int .i64 0] by unfold mapG; rw [hgz]; rfl, show (mapG gj z.k).isSome = false by unfold mapG; rw [hgz]; rfl] at hlk
            clear hgz
            go_wp2_with fail
            replace hG := gm_alloc (hG.up F5) (.cells #[.int .i64 0, .int .i64 0, .int .i64 0] 73)
            have F6 := (F.then F5).then ((Fr.refl [] _).alloc (.cells #[.int .i64 0, .int .i64 0, .int .i64 0] 73))
            obtain ⟨w8, r8, G8, F8⟩ := GMap.put hG Try.underlying66 (by unfold maxLen; have := HN.out.2.2; omega) HZ.out.2.2 (itV z)
            rw [mapG_put hall, ← HZ.out.2.1] at G8
            have E8 := Lib.hid (F6.trans F8)
            have HG8 := Lib.hid G8
            unfold itV at r8
            rw [r8]
            clear r8 G8 F8 F6 F5 F hG hlk hall
            go_wp2_with fail
            go_roundw
            case rel => exact ⟨j + 1, by omega, by go_num, by rw [← Nat.add_assoc]; exact HG8.out, E8.out⟩
            case measure => simp [RowKit.intOf]; omega
          | some wv =>
            rw [if_pos rfl, show (mapG gj z.k).getD zeroItV = .agg #[.int .i64 wv.k, .int .i64 wv.v, .int .i64 wv.d] by unfold mapG; rw [hgz]; rfl, show (mapG gj z.k).isSome = true by unfold mapG; rw [hgz]; rfl] at hlk
            by_cases q : wv.v ≤ z.v
            · have hall : (gj z.k).all (fun y => decide (y.v ≤ z.v)) = true := by rw [hgz]; simpa using q
              have gq : decide (z.v ≥ wv.v) = true := by simpa using q
              clear hgz q
              go_wp2_with fail
              replace hG := gm_alloc (hG.up F5) (.cells #[.int .i64 wv.k, .int .i64 wv.v, .int .i64 wv.d] 73)
              have F6 := (F.then F5).then ((Fr.refl [] _).alloc (.cells #[.int .i64 wv.k, .int .i64 wv.v, .int .i64 wv.d] 73))
              obtain ⟨w8, r8, G8, F8⟩ := GMap.put hG Try.underlying66 (by unfold maxLen; have := HN.out.2.2; omega) HZ.out.2.2 (itV z)
              rw [mapG_put hall, ← HZ.out.2.1] at G8
              have E8 := Lib.hid (F6.trans F8)
              have HG8 := Lib.hid G8
              unfold itV at r8
              rw [r8]
              clear r8 G8 F8 F6 F5 F hG hlk hall
              go_wp2_with fail
              go_roundw
              case rel => exact ⟨j + 1, by omega, by go_num, by rw [← Nat.add_assoc]; exact HG8.out, E8.out⟩
              case measure => simp [RowKit.intOf]; omega
            · have hall : ¬ (gj z.k).all (fun y => decide (y.v ≤ z.v)) = true := by rw [hgz]; simpa using q
              have gq : decide (z.v ≥ wv.v) = false := by simpa using q
              clear hgz q
              have HA := Lib.hid (mapG_no hall)
              clear hall
              go_wp2_with fail
              have hG6 := gm_alloc (hG.up F5) (.cells #[.int .i64 wv.k, .int .i64 wv.v, .int .i64 wv.d] 73)
              have E8 := Lib.hid ((F.then F5).then ((Fr.refl [] _).alloc (.cells #[.int .i64 wv.k, .int .i64 wv.v, .int .i64 wv.d] 73)))
              have HG8 := Lib.hid hG6
              clear hG6 hG F5 F hlk
              go_roundw
              case rel => exact ⟨j + 1, by omega, by go_num, by rw [HZ.out.2.1, ← HA.out]; exact gm_more HG8.out (by omega), E8.out⟩
              case measure => simp [RowKit.intOf]; omega
        · obtain rfl : j = its.length := by omega
          rw [List.take_length] at hG
          have HG := Lib.hid hG
          have HF := Lib.hid F
          clear hG F
          go_wp2
          refine ⟨⟨i + 1, by have := HLEN.out; omega, by go_num, ?_, F3.out.own HF.out (by intro k hk; simp at hk; subst hk; exact Nat.le_of_eq HBM.out)⟩, by simp [RowKit.intOf]; omega⟩
          rw [HN.out.1, List.length_append, HG0.out.2, show latF (itsOf (L.take i) ++ its) = its.foldl latU g0 by rw [← HG0.out.1]; unfold latF; rw [List.foldl_append]]
          exact HG.out
    · obtain rfl : i = xs.length := by omega
      rw [HLEN.out, List.take_length] at hG
      have HG := Lib.hid hG
      have HF := Lib.hid F
      clear hG F
      go_wp2
      go_ret
      exact ⟨bm, rfl, by rw [← HBM.out]; exact Nat.le_refl _, HG.out, HF.out⟩
end Go.Proofs.Ytkdnhaglfbkhfaa.Ch
