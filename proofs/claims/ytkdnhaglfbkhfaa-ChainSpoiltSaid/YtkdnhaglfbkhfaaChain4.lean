/- Package chain: where the chunks are, whose chunk a key is. -/
import Derived.Test.YtkdnhaglfbkhfaaChain3
namespace Go.Proofs.Ytkdnhaglfbkhfaa.Ch
open Go.RowKit Go.Proofs.Ytkdnhaglfbkhfaa.Ar Go.Proofs.Ytkdnhaglfbkhfaa.Mx Go.Proofs.Ytkdnhaglfbkhfaa.Vw
set_option linter.unusedVariables false
set_option linter.unusedSimpArgs false
def fN (x : Int) : List Value := [.int .i64 x]
theorem fN_lays : Lays fN 1 := ⟨fun _ => rfl, fun x u hu => by simp [fN] at hu; subst hu; rfl, by decide⟩
theorem intN : (Try.prog.info? 3).map (fun i => (i.zero, i.size, i.bytes)) = some (some (.int .i64 0), 1, 8) := by kernel_rfl
theorem kr_cells {w : World} {a : Option Addr} {n cap i : Nat} {xs : List Kr} {x : Kr} (h : Sq fK w (.slice a n cap) xs) (hi : xs[i]? = some x) :
    ∃ g off, a = some ⟨g, off, none⟩ ∧ w.cell? ⟨g, off + i * 9, none⟩ = some (.int .i64 x.hd.at_) ∧ w.cell? ⟨g, off + i * 9 + 1, none⟩ = some (.int .i64 x.hd.mn) ∧ w.cell? ⟨g, off + i * 9 + 2, none⟩ = some (.int .i64 x.hd.ct) ∧ w.cell? ⟨g, off + i * 9 + 3, none⟩ = some (.int .i64 x.hd.nx) ∧
      w.cell? ⟨g, off + i * 9 + 4, none⟩ = some (.int .i64 x.hd.ld) ∧ w.cell? ⟨g, off + i * 9 + 5, none⟩ = some (.int .i64 x.hd.mt) ∧ w.cell? ⟨g, off + i * 9 + 6, none⟩ = some (.int .i64 x.hd.rp) ∧ w.cell? ⟨g, off + i * 9 + 7, none⟩ = some (.int .i64 x.hd.st) ∧ w.cell? ⟨g, off + i * 9 + 8, none⟩ = some (.slice (some ⟨x.b, 0, none⟩) x.n x.n) := by
  obtain ⟨-, g, off, rfl, hc⟩ := Sq.cell fK_lays h hi
  exact ⟨g, off, rfl, hc 0 _ rfl, hc 1 _ rfl, hc 2 _ rfl, hc 3 _ rfl, hc 4 _ rfl, hc 5 _ rfl, hc 6 _ rfl, hc 7 _ rfl, hc 8 _ rfl⟩
theorem CkRow.hds {w : World} {B : Nat} {xs : List Kr} {L : List (Hd × List Ce)} (h : CkRow w B xs L) : xs.map Kr.hd = L.map Prod.fst := by
  apply List.ext_getElem?
  intro i
  simp only [List.getElem?_map]
  by_cases hi : i < xs.length
  · have h2 : i < L.length := by rw [← h.len]; exact hi
    have e1 := List.getElem?_eq_getElem hi
    have e2 := List.getElem?_eq_getElem h2
    rw [e1, e2]
    simp [(h.each i _ _ e1 e2).hd]
  · rw [List.getElem?_eq_none (by omega), List.getElem?_eq_none (by rw [← h.len]; omega)]; rfl
theorem CkRow.hat {w : World} {B : Nat} {xs : List Kr} {L : List (Hd × List Ce)} (h : CkRow w B xs L) : xs.map (fun x => x.hd.at_) = L.map (fun y => y.1.at_) := by
  have := congrArg (List.map Hd.at_) h.hds
  simpa only [List.map_map, Function.comp_def] using this
theorem chunks_at (f : Int → Int) (len n : Nat) (t : Int) : (chunksF f len n t).map (fun y => y.1.at_) = allF f len n t := by
  unfold chunksF; simp [ckF, Function.comp_def]
theorem chunks_len (f : Int → Int) (len n : Nat) (t : Int) : (chunksF f len n t).length ≤ len := by
  unfold chunksF; rw [List.length_map]; exact (allF_told f len n t).le
def fC9 (t n wd v : Int) : Array Value := #[.int .i64 t, .int .i64 n, .int .i64 wd, .int .i64 v]
/-- Where the list of places stands. -/
def AllAt (w : World) (xs : List Kr) (u x : Value) (wr : World) : Prop := ∃ i, i ≤ xs.length ∧ x = .int .i64 (i : Nat) ∧ wr.ownsRow w.heap.size 3 1 u ((xs.take i).map (fun x => x.hd.at_)).length (((xs.take i).map (fun x => x.hd.at_)).flatMap fN) ∧ Fr [] w wr
set_option maxRecDepth 100000 in
set_option maxHeartbeats 3200000 in
theorem all_any (t wd v : Int) (n p q : Nat) (s : St) (w : World) (ht : 1 ≤ t) (ht2 : t ≤ 8) (h1 : 1 ≤ n) (h2 : n ≤ 16) (h3 : n ≤ s.l.length) (h4 : s.l.length ≤ 20000) (hA : Ar w p q s) :
    Calls Try.prog 12 #[.agg #[.int .i64 t, .int .i64 n, .int .i64 wd, .int .i64 v], .pointer (some ⟨p, 0, none⟩)] w fun e w' => (∃ u, e = .returned u ∧ w'.ownsRow w.heap.size 3 1 u (allF (peek s.l) s.l.length n t).length ((allF (peek s.l) s.l.length n t).flatMap fN)) ∧ Fr [] w w' := by
  have F0 := (Fr.refl [] w).alloc (.cells #[.int .i64 t, .int .i64 n, .int .i64 wd, .int .i64 v] 24)
  obtain ⟨c0, c1, c2, c3⟩ := Pl.cells4 (Ob.new w 24 #[.int .i64 t, .int .i64 n, .int .i64 wd, .int .i64 v])
  have H := Lib.hid (chunks_any t wd v n p q s _ ht ht2 h1 h2 h3 h4 (hA.kept F0 (by simp) (by simp)))
  rw [← chunks_at]
  have hcl := chunks_len (peek s.l) s.l.length n t
  generalize chunksF (peek s.l) s.l.length n t = L at *
  clear hA
  go_enter Try.func12, Try.ntmps12
  go_wp2_with fail
  clear c0 c1 c2 c3
  refine H.out.mono ?_; rintro e w1 ⟨lv, xs, rfl, hr, hC, F1⟩
  clear H
  have FW := F0.trans F1
  have hs := Lib.hid (Sq.own hr)
  have HA := Lib.hid hC.hat
  have hxl : xs.length ≤ 20000 := by rw [hC.len]; omega
  obtain ⟨a, cap, rfl, -, -⟩ := row_cell hr
  have HF := Lib.hid F1
  clear F0 F1 hr hC hcl
  go_wp2_with fail
  go_loopw [5, 12] (AllAt w1 xs) (fun _ x _ => xs.length - (RowKit.intOf x).toNat)
  case atStart => exact ⟨0, by omega, rfl, ⟨rfl, .inl ⟨rfl, rfl⟩⟩, Fr.refl _ _⟩
  case round =>
    obtain ⟨i, hi, rfl, hr, F⟩ := hrel
    by_cases hlt : i < xs.length
    · obtain ⟨x, hx⟩ : ∃ x, xs[i]? = some x := ⟨xs[i], List.getElem?_eq_getElem hlt⟩
      obtain ⟨g, off, rfl, d0, d1, d2, d3, d4, d5, d6, d7, d8⟩ := kr_cells (hs.out.up F) hx
      have hn : (xs.take (i + 1)).map (fun x => x.hd.at_) = (xs.take i).map (fun x => x.hd.at_) ++ [x.hd.at_] := by
        rw [List.take_add_one, hx]; simp
      have hal : ((xs.take i).map (fun x => x.hd.at_)).length ≤ 20000 := by simp; omega
      generalize (xs.take i).map (fun x => x.hd.at_) = out at hr hn hal ⊢
      have HN := Lib.hid (And.intro hn hal)
      clear hn hal
      have F5 := (Fr.refl [] wr).alloc (.cells #[.int .i64 x.hd.at_, .int .i64 x.hd.mn, .int .i64 x.hd.ct, .int .i64 x.hd.nx, .int .i64 x.hd.ld, .int .i64 x.hd.mt, .int .i64 x.hd.rp, .int .i64 x.hd.st, .slice (some ⟨x.b, 0, none⟩) x.n x.n] 63)
      have GA := F5.alloc (.cells #[.int .i64 x.hd.at_] 3)
      have X4 := row_keeps hr GA
      have X3 := (Sq.block (f := fN) (xs := [x.hd.at_]) (c := 1) (Ob.newAt (sizeA wr (.cells #[.int .i64 x.hd.at_, .int .i64 x.hd.mn, .int .i64 x.hd.ct, .int .i64 x.hd.nx, .int .i64 x.hd.ld, .int .i64 x.hd.mt, .int .i64 x.hd.rp, .int .i64 x.hd.st, .slice (some ⟨x.b, 0, none⟩) x.n x.n] 63)) 3 #[.int .i64 x.hd.at_]) rfl rfl (Nat.le_refl _) (by simp [maxLen]))
      have EA := F.trans GA
      have hsA := EA.size
      clear F5 GA hr
      go_wp2_with (at_builtin; refine wpList_appSq fN_lays rfl _ _ 35 rfl Try.underlying35 intN rfl (B := w1.heap.size) u5 out rfl X4 _ [x.hd.at_] rfl X3 (show out.length + 1 ≤ 1000000 by have := HN.out.2; omega) (by decide) hsA ?_; intro a9 c9 w9 r9 F9; generalize hT : out ++ [x.hd.at_] = T at r9 ⊢; have E9 := EA.own F9 (row_base X4); have HT := Lib.hid hT; clear hT F9 X3 X4 hsA EA)
      go_roundw
      case rel => exact ⟨i + 1, by omega, by go_num, by rw [HN.out.1, HT.out]; exact r9, E9⟩
      case measure => simp [RowKit.intOf]; omega
    · obtain rfl : i = xs.length := by omega
      rw [List.take_length] at hr
      have HR := Lib.hid hr
      clear hr
      go_wp2
      go_ret
      exact ⟨⟨_, rfl, by rw [← HA.out]; exact row_more HR.out FW.size⟩, FW.trans F⟩
/-- The last chunk that begins not behind the key. -/
def ofK (xs : List Kr) (key : Int) : Int := xs.foldl (fun a x => if x.hd.mn ≤ key then x.hd.at_ else a) 0
theorem ofK_row {w : World} {B : Nat} {xs : List Kr} {L : List (Hd × List Ce)} (h : CkRow w B xs L) (key : Int) : ofK xs key = ofL L key := by
  have e := h.hds
  unfold ofK ofL
  generalize (0 : Int) = a
  clear h
  induction xs generalizing L a with
  | nil => cases L with
    | nil => rfl
    | cons y L => simp at e
  | cons x xs ih => cases L with
    | nil => simp at e
    | cons y L =>
      simp only [List.map_cons, List.cons.injEq] at e
      rw [List.foldl_cons, List.foldl_cons, e.1]
      exact ih e.2 _
theorem ofK_succ {xs : List Kr} {i : Nat} {x : Kr} (hx : xs[i]? = some x) (key : Int) : ofK (xs.take (i + 1)) key = if x.hd.mn ≤ key then x.hd.at_ else ofK (xs.take i) key := by
  unfold ofK
  rw [List.take_add_one, hx, Option.toList_some, List.foldl_append]; rfl
def OfAt (w : World) (xs : List Kr) (key : Int) (u x : Value) (wr : World) : Prop := ∃ i, i ≤ xs.length ∧ x = .int .i64 (i : Nat) ∧ u = .int .i64 (ofK (xs.take i) key) ∧ Fr [] w wr
set_option maxRecDepth 100000 in
set_option maxHeartbeats 3200000 in
theorem of_any (t wd v key : Int) (n p q : Nat) (s : St) (w : World) (ht : 1 ≤ t) (ht2 : t ≤ 8) (h1 : 1 ≤ n) (h2 : n ≤ 16) (h3 : n ≤ s.l.length) (h4 : s.l.length ≤ 20000) (hA : Ar w p q s) :
    Calls Try.prog 15 #[.agg #[.int .i64 t, .int .i64 n, .int .i64 wd, .int .i64 v], .pointer (some ⟨p, 0, none⟩), .int .i64 key] w fun e w' => e = .returned (.int .i64 (ofL (chunksF (peek s.l) s.l.length n t) key)) ∧ Fr [] w w' := by
  have F0 := (Fr.refl [] w).alloc (.cells #[.int .i64 t, .int .i64 n, .int .i64 wd, .int .i64 v] 24)
  obtain ⟨c0, c1, c2, c3⟩ := Pl.cells4 (Ob.new w 24 #[.int .i64 t, .int .i64 n, .int .i64 wd, .int .i64 v])
  have H := Lib.hid (chunks_any t wd v n p q s _ ht ht2 h1 h2 h3 h4 (hA.kept F0 (by simp) (by simp)))
  have hcl := chunks_len (peek s.l) s.l.length n t
  generalize chunksF (peek s.l) s.l.length n t = L at *
  clear hA
  go_enter Try.func15, Try.ntmps15
  go_wp2_with fail
  clear c0 c1 c2 c3
  refine H.out.mono ?_; rintro e w1 ⟨lv, xs, rfl, hr, hC, F1⟩
  clear H
  have FW := F0.trans F1
  have hs := Lib.hid (Sq.own hr)
  have HO := Lib.hid (ofK_row hC key)
  have hxl : xs.length ≤ 20000 := by rw [hC.len]; omega
  obtain ⟨a, cap, rfl, -, -⟩ := row_cell hr
  clear F0 F1 hr hC hcl
  go_wp2_with fail
  go_loopw [7, 14] (OfAt w1 xs key) (fun _ x _ => xs.length - (RowKit.intOf x).toNat)
  case atStart => exact ⟨0, by omega, rfl, rfl, Fr.refl _ _⟩
  case round =>
    obtain ⟨i, hi, rfl, rfl, F⟩ := hrel
    by_cases hlt : i < xs.length
    · obtain ⟨x, hx⟩ : ∃ x, xs[i]? = some x := ⟨xs[i], List.getElem?_eq_getElem hlt⟩
      obtain ⟨g, off, rfl, d0, d1, d2, d3, d4, d5, d6, d7, d8⟩ := kr_cells (hs.out.up F) hx
      have HN := Lib.hid (ofK_succ hx key)
      generalize ofK (xs.take i) key = o at *
      have F5 := F.trans ((Fr.refl [] wr).alloc (.cells #[.int .i64 x.hd.at_, .int .i64 x.hd.mn, .int .i64 x.hd.ct, .int .i64 x.hd.nx, .int .i64 x.hd.ld, .int .i64 x.hd.mt, .int .i64 x.hd.rp, .int .i64 x.hd.st, .slice (some ⟨x.b, 0, none⟩) x.n x.n] 63))
      by_cases hk : x.hd.mn ≤ key
      · have g1 : decide (x.hd.mn ≤ key) = true := by simpa using hk
        have HN2 := Lib.hid (HN.out.trans (if_pos hk))
        clear hk HN
        go_wp2_with fail
        go_roundw
        case rel => exact ⟨i + 1, by omega, by go_num, by rw [HN2.out], F5⟩
        case measure => simp [RowKit.intOf]; omega
      · have g1 : decide (x.hd.mn ≤ key) = false := by simpa using hk
        have HN2 := Lib.hid (HN.out.trans (if_neg hk))
        clear hk HN
        go_wp2_with fail
        go_roundw
        case rel => exact ⟨i + 1, by omega, by go_num, by rw [HN2.out], F5⟩
        case measure => simp [RowKit.intOf]; omega
    · obtain rfl : i = xs.length := by omega
      rw [List.take_length]
      have HF := Lib.hid F
      clear F
      generalize ofK xs key = o at *
      go_wp2
      go_ret
      exact ⟨by rw [HO.out]; rfl, FW.trans HF.out⟩
end Go.Proofs.Ytkdnhaglfbkhfaa.Ch
