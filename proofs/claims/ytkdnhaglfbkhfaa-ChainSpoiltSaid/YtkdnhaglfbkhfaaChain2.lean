/- Package chain: the chunks, one behind the other. -/
import Derived.Test.YtkdnhaglfbkhfaaChain
import Derived.Carry
namespace Go.Proofs.Ytkdnhaglfbkhfaa.Ch
open Go.RowKit Go.Proofs.Ytkdnhaglfbkhfaa.Ar Go.Proofs.Ytkdnhaglfbkhfaa.Mx Go.Proofs.Ytkdnhaglfbkhfaa.Vw
set_option linter.unusedVariables false
set_option linter.unusedSimpArgs false
/-- A chunk in a row: its header, its cells' block, how many. -/
structure Kr where
  hd : Hd
  b : Nat
  n : Nat
def Kr.lv (x : Kr) : Value := .slice (some ⟨x.b, 0, none⟩) x.n x.n
def fK (x : Kr) : List Value := [.int .i64 x.hd.at_, .int .i64 x.hd.mn, .int .i64 x.hd.ct, .int .i64 x.hd.nx, .int .i64 x.hd.ld, .int .i64 x.hd.mt, .int .i64 x.hd.rp, .int .i64 x.hd.st, .slice (some ⟨x.b, 0, none⟩) x.n x.n]
theorem fK_lays : Lays fK 9 := ⟨fun _ => rfl, fun x u hu => by simp [fK] at hu; rcases hu with rfl | rfl | rfl | rfl | rfl | rfl | rfl | rfl | rfl <;> rfl, by decide⟩
/-- A chunk as it lies in a row: its cells in a row of their own. -/
structure CkAt (w : World) (B : Nat) (x : Kr) (y : Hd × List Ce) : Prop where
  hd : x.hd = y.1
  len : x.n = y.2.length
  base : B ≤ x.b
  at_ : Ob w x.b 90 (y.2.flatMap fC).toArray
theorem CkAt.kept {S : List Nat} {w w' : World} {B : Nat} {x : Kr} {y : Hd × List Ce} (h : CkAt w B x y) (f : Fr S w w') (hS : ∀ b cs, Ob w b 90 cs → b ∉ S) : CkAt w' B x y := ⟨h.hd, h.len, h.base, h.at_.kept f (hS _ _ h.at_)⟩
theorem CkAt.ch {w : World} {B : Nat} {x : Kr} {y : Hd × List Ce} (h : CkAt w B x y) (hy : y.2.length ≤ 16) : ChIs w (chV x.hd x.lv) y.1 y.2 :=
  ⟨x.lv, by rw [h.hd], by unfold Kr.lv; rw [h.len]; exact Sq.block h.at_ (by simp) rfl (Nat.le_refl _) (by unfold maxLen; omega)⟩
/-- A row of chunks. -/
structure CkRow (w : World) (B : Nat) (xs : List Kr) (L : List (Hd × List Ce)) : Prop where
  len : xs.length = L.length
  each : ∀ (i : Nat) (x : Kr) (y : Hd × List Ce), xs[i]? = some x → L[i]? = some y → CkAt w B x y
theorem CkRow.kept {S : List Nat} {w w' : World} {B : Nat} {xs : List Kr} {L : List (Hd × List Ce)} (h : CkRow w B xs L) (f : Fr S w w') (hS : ∀ b cs, Ob w b 90 cs → b ∉ S) : CkRow w' B xs L :=
  ⟨h.len, fun i x y hx hy => (h.each i x y hx hy).kept f hS⟩
theorem CkRow.up {w w' : World} {B : Nat} {xs : List Kr} {L : List (Hd × List Ce)} (h : CkRow w B xs L) (f : Fr [] w w') : CkRow w' B xs L := h.kept f (by simp)
theorem CkRow.nil (w : World) (B : Nat) : CkRow w B [] [] := ⟨rfl, fun i x y hx => by simp at hx⟩
theorem CkRow.add {w : World} {B : Nat} {xs : List Kr} {L : List (Hd × List Ce)} {x : Kr} {y : Hd × List Ce} (h : CkRow w B xs L) (k : CkAt w B x y) : CkRow w B (xs ++ [x]) (L ++ [y]) := by
  refine ⟨by simp [h.len], fun i u v hu hv => ?_⟩
  rw [List.getElem?_append] at hu hv
  by_cases hi : i < xs.length
  · rw [if_pos hi] at hu
    rw [if_pos (by rw [← h.len]; exact hi)] at hv
    exact h.each i u v hu hv
  · rw [if_neg hi] at hu
    rw [if_neg (by rw [← h.len]; exact hi)] at hv
    rw [h.len] at hu
    generalize i - L.length = j at hu hv
    cases j with
    | zero => simp at hu hv; subst hu; subst hv; exact k
    | succ j => simp at hu
theorem ckI : (Try.prog.info? 63).map (fun i => (i.zero, i.size, i.bytes)) = some (some (.agg #[.int .i64 0, .int .i64 0, .int .i64 0, .int .i64 0, .int .i64 0, .int .i64 0, .int .i64 0, .int .i64 0, .slice none 0 0]), 9, 88) := by kernel_rfl
theorem atU_bd (w : Int) : 0 ≤ atU w ∧ atU w ≤ 9223372036854775807 := by unfold atU; omega
theorem at_any (a : Int) (w : World) : Calls Try.prog 25 #[.int .i64 a] w fun e w' => e = .returned (.int .i64 (atU a)) ∧ w = w' :=
  (Word.at_any a w).mono (by rintro e w' ⟨rfl, rfl⟩; exact ⟨rfl, rfl⟩)
theorem wf_pos {a : Int} (h0 : 0 ≤ a) (h1 : a ≤ 9223372036854775807) : (Lit.int .i64 a).wf = true := WalkArith.wf_i64 (by omega)
def sliceLen : Value → Nat
  | .slice _ n _ => n
  | _ => 0
/-- The places that were told, as a map. -/
def memG (acc : List Int) (y : Int) : Option Value := if y ∈ acc then some (.agg #[]) else none
theorem memG_val (acc : List Int) (a : Int) : (memG acc a).getD (.agg #[]) = .agg #[] := by unfold memG; split <;> rfl
theorem memG_some (acc : List Int) (a : Int) : (memG acc a).isSome = decide (a ∈ acc) := by unfold memG; split <;> simp [*]
theorem memG_add (acc : List Int) (a : Int) : (fun x => if x = a then some (.agg #[]) else memG acc x) = memG (acc ++ [a]) := by
  funext x; unfold memG
  by_cases h : x = a
  · simp [h]
  · by_cases h2 : x ∈ acc <;> simp [h, h2]
/-- Where the walk along the chain stands. -/
def ChkAt (w : World) (f : Int → Int) (len n : Nat) (t : Int) (bm : Nat) (u x : Value) (wr : World) : Prop := ∃ k a acc xs, x = .int .i64 a ∧ 0 ≤ a ∧ a ≤ 9223372036854775807 ∧ walkF f len n k a acc = allF f len n t ∧ Told len n acc ∧ k + acc.length = len + 1 ∧
  wr.ownsRow w.heap.size 63 9 u xs.length (xs.flatMap fK) ∧ CkRow wr w.heap.size xs (acc.map (ckF f n)) ∧ GMap wr bm acc.length (memG acc) ∧ Fr [] w wr
/-- What chunks answers. -/
def ChkMade (w : World) (L : List (Hd × List Ce)) (e : Ending) (w' : World) : Prop := ∃ v xs, e = .returned v ∧ w'.ownsRow w.heap.size 63 9 v xs.length (xs.flatMap fK) ∧ CkRow w' w.heap.size xs L ∧ Fr [] w w'
theorem zeroU (W : World) : (zeroValue 79).run Try.prog W = .ok (.agg #[]) W := by kernel_rfl
set_option maxRecDepth 100000 in
set_option maxHeartbeats 6400000 in
theorem chunks_any (t wd v : Int) (n p q : Nat) (s : St) (w : World) (ht : 1 ≤ t) (ht2 : t ≤ 8) (h1 : 1 ≤ n) (h2 : n ≤ 16) (h3 : n ≤ s.l.length) (h4 : s.l.length ≤ 20000) (hA : Ar w p q s) :
    Calls Try.prog 24 #[.agg #[.int .i64 t, .int .i64 n, .int .i64 wd, .int .i64 v], .pointer (some ⟨p, 0, none⟩)] w (ChkMade w (chunksF (peek s.l) s.l.length n t)) := by
  have F0 := (Fr.refl [] w).alloc (.cells #[.int .i64 t, .int .i64 n, .int .i64 wd, .int .i64 v] 24)
  have o0 := Ob.new w 24 #[.int .i64 t, .int .i64 n, .int .i64 wd, .int .i64 v]
  have isE := Er.isE
  have hmm := @run_makeMap Try.prog
  go_enter Try.func24, Try.ntmps24
  have F1 := F0.alloc (.map #[] 0)
  have o1 := o0.alloc (.map #[] 0)
  have m1 := GMap.made (w.alloc (.cells #[.int .i64 t, .int .i64 n, .int .i64 wd, .int .i64 v] 24))
  rw [sizeA] at m1
  obtain ⟨c0, c1, c2, c3⟩ := Pl.cells4 o1
  go_wp2_with fail
  clear hmm
  generalize (World.alloc (w.alloc (.cells #[.int .i64 t, .int .i64 n, .int .i64 wd, .int .i64 v] 24)) (.map #[] 0)) = w1 at *
  clear o0 F0
  refine (Pl.head_any t n wd v ht ht2 _).mono ?_; rintro e w2 ⟨rfl, F2⟩
  replace F1 := F1.trans F2
  replace o1 := o1.up F2
  replace m1 := m1.up F2
  have A1 := hA.kept F1 (by simp) (by simp)
  clear F2 c0 c1 c2 c3 w1
  go_wp2_with fail
  refine (peek_any _ p q s _ A1).mono ?_; rintro e _ ⟨rfl, rfl⟩
  rw [show (3 + t + 4 + 2 : Int) = 9 + t by omega]
  go_wp2_with fail
  refine (at_any _ _).mono ?_; rintro e _ ⟨rfl, rfl⟩
  go_wp2_with fail
  obtain ⟨ha0, ha1⟩ := atU_bd (peek s.l (9 + t))
  have hst : ChkAt w (peek s.l) s.l.length n t (w.heap.size + 1) (.slice none 0 0) (.int .i64 (atU (peek s.l (9 + t)))) w2 :=
    ⟨s.l.length + 1, _, [], [], rfl, ha0, ha1, rfl, Told.nil _ _, by simp, ⟨rfl, .inl ⟨rfl, rfl⟩⟩, CkRow.nil _ _, m1, F1⟩
  have hr : w.heap.size < w2.heap.size := o1.lt
  clear m1 ha0 ha1 A1
  generalize atU (peek s.l (9 + t)) = a0 at hst ⊢
  have HW := Lib.hid (show ∀ wr, Fr [] w wr → Ar wr p q s from fun wr F => hA.kept F (by simp) (by simp))
  clear hA
  go_loopw [5, 7] (fun u x wr => ChkAt w (peek s.l) s.l.length n t (w.heap.size + 1) u x wr ∧ Ob wr w.heap.size 24 #[.int .i64 t, .int .i64 n, .int .i64 wd, .int .i64 v]) (fun u _ _ => s.l.length + 1 - sliceLen u)
  case atStart => exact ⟨hst, o1⟩
  case round =>
    obtain ⟨⟨k, a, acc, xs, rfl, ha0, ha1, hwk, hT, hk, hr5, hC, hG, F⟩, oc⟩ := hrel
    have hacc := hT.le
    have hxl := Lib.hid (show xs.length = acc.length by have := hC.len; simpa using this)
    have hul := Lib.hid (show sliceLen u5 = xs.length by obtain ⟨a', c', e, -⟩ := row_cell hr5; rw [e]; rfl)
    obtain ⟨k, rfl⟩ : ∃ j, k = j + 1 := ⟨k - 1, by omega⟩
    by_cases ea : a = 0
    · have hE := Lib.hid (show allF (peek s.l) s.l.length n t = acc by rw [← hwk]; unfold walkF; rw [if_pos (.inl ea)])
      have g0 : (a != 0) = false := by simp [ea]
      clear ea hwk
      go_wp2_with fail
      go_ret
      exact ⟨_, xs, rfl, hr5, by unfold chunksF; rw [hE.out]; exact hC, F⟩
    · have g0 : (a != 0) = true := by simpa using ea
      obtain ⟨c0, c1, c2, c3⟩ := Pl.cells4 oc
      have hwf := wf_pos ha0 ha1
      cases htb : thereB s.l.length n a with
      | false =>
        have hE := Lib.hid (show allF (peek s.l) s.l.length n t = acc by rw [← hwk]; unfold walkF; rw [if_pos (.inr (.inl htb))])
        go_wp2_with fail
        refine (chunk_no t wd v a n p q s _ h1 h2 h3 h4 (HW.out _ F) htb).mono ?_; rintro e w5 ⟨rfl, F5⟩
        unfold chV
        go_wp2_with fail
        have F6 := (Fr.refl [] w5).alloc (.cells #[.int .i64 0, .int .i64 0, .int .i64 0, .int .i64 0, .int .i64 0, .int .i64 0, .int .i64 0, .int .i64 0, .slice none 0 0] 63)
        have E6 := F5.trans F6
        generalize World.alloc w5 _ = w6 at *
        have hlk := GMap.look (hG.up E6) Try.underlying76 (zeroU _) hwf true
        rw [if_pos rfl, memG_val, memG_some] at hlk
        rw [hlk]
        clear hlk hwk
        generalize decide (a ∈ acc) = bb
        have E7 := E6.alloc (.cells #[] 79)
        cases bb
        all_goals
          go_wp2_with fail
          go_ret
          exact ⟨_, xs, rfl, row_keeps hr5 E7, by unfold chunksF; rw [hE.out]; exact hC.up E7, F.trans E7⟩
      | true =>
        go_wp2_with fail
        refine (chunk_yes t wd v a n p q s _ h1 h2 h3 h4 (HW.out _ F) htb).mono ?_; rintro e w5 ⟨b, rfl, hb, ob, F5⟩
        generalize hhd : headOf s.l a = h at *
        generalize hcs : cellsOf s.l a n = cs at *
        have HX := Lib.hid (show ckF (peek s.l) n a = (h, cs) ∧ h.nx = peek s.l (a + 2) from ⟨by rw [ckF_peek, hhd, hcs], by rw [← hhd]; rfl⟩)
        clear hhd hcs
        unfold chV
        clear c0 c1 c2 c3
        go_wp2_with fail
        have F6 := (Fr.refl [] w5).alloc (.cells #[.int .i64 h.at_, .int .i64 h.mn, .int .i64 h.ct, .int .i64 h.nx, .int .i64 h.ld, .int .i64 h.mt, .int .i64 h.rp, .int .i64 h.st, .slice (some ⟨b, 0, none⟩) cs.length cs.length] 63)
        have o6 : Ob _ w5.heap.size 63 #[.int .i64 h.at_, .int .i64 h.mn, .int .i64 h.ct, .int .i64 h.nx, .int .i64 h.ld, .int .i64 h.mt, .int .i64 h.rp, .int .i64 h.st, .slice (some ⟨b, 0, none⟩) cs.length cs.length] := Ob.new w5 63 #[.int .i64 h.at_, .int .i64 h.mn, .int .i64 h.ct, .int .i64 h.nx, .int .i64 h.ld, .int .i64 h.mt, .int .i64 h.rp, .int .i64 h.st, .slice (some ⟨b, 0, none⟩) cs.length cs.length]
        have E6 := F5.trans F6
        have hws := F5.size
        generalize hw6 : World.alloc w5 _ = w6 at *
        clear hw6
        generalize hbx : w5.heap.size = bx at *
        have ob6 := ob.up F6
        clear F5 F6 ob
        have hlk := GMap.look (hG.up E6) Try.underlying76 (zeroU _) hwf true
        rw [if_pos rfl, memG_val, memG_some] at hlk
        rw [hlk]
        clear hlk
        by_cases hm : a ∈ acc
        · have hE := Lib.hid (show allF (peek s.l) s.l.length n t = acc by rw [← hwk]; unfold walkF; rw [if_pos (.inr (.inr hm))])
          rw [decide_eq_true hm]
          have E7 := E6.alloc (.cells #[] 79)
          clear hwk hm
          go_wp2_with fail
          go_ret
          exact ⟨_, xs, rfl, row_keeps hr5 E7, by unfold chunksF; rw [hE.out]; exact hC.up E7, F.trans E7⟩
        · have hE := Lib.hid (show walkF (peek s.l) s.l.length n k (atU (peek s.l (a + 2))) (acc ++ [a]) = allF (peek s.l) s.l.length n t by rw [← hwk]; conv => rhs; unfold walkF; rw [if_neg (by rintro (h | h | h) <;> simp_all)])
          have hT2 := Lib.hid (hT.add htb hm)
          rw [decide_eq_false hm]
          clear hwk hm hT
          go_wp2_with fail
          have F7 := (Fr.refl [] w6).alloc (.cells #[] 79)
          have E7 := E6.trans F7
          generalize hw7 : World.alloc w6 _ = w7 at *
          clear hw7 E6
          obtain ⟨w8, r8, G8, F8⟩ := GMap.put (hG.up E7) Try.underlying76 (by unfold maxLen; omega) hwf (.agg #[])
          rw [r8, memG_add] at *
          clear r8
          have hmap := hG.up E7
          have nr := row_keeps hr5 E7
          have hlt := fun g hg => (hr5.lt g hg).2
          have hFs := F.size
          have nm : ∀ g, u5.ownBlock = some g → g ∉ [w.heap.size + 1] := by
            intro g hg hi
            obtain ⟨es, ck, he⟩ := hmap.is_map
            simp at hi; subst hi
            exact row_ne_map nr he (by rw [hg]; simp)
          have o8 := (o6.up F7).kept F8 (by simp; exact (hmap.ne (o6.up F7)).symm)
          have ob8 := (ob6.up F7).kept F8 (by simp; exact (hmap.ne (ob6.up F7)).symm)
          have C8 := (hC.up E7).kept F8 (fun b cs o => by simp; exact (hmap.ne o).symm)
          have r8 := row_fr nr F8 nm
          have oc8 := (oc.up E7).kept F8 (by simp)
          have E8 := (F.trans E7).own F8 (by simp)
          clear nr hr5 hC hG oc o6 ob6 hmap nm F F7 F8 E7
          obtain ⟨x0, x1, x2, x3, x4, x5, x6, x7, x8⟩ := ch_cells o8
          have hnr : bx ∉ u5.ownBlock.toList := by
            intro hi
            have := hlt bx (by simpa using hi)
            omega
          have GA := (Fr.refl [] w8).alloc (.cells #[.int .i64 h.at_, .int .i64 h.mn, .int .i64 h.ct, .int .i64 h.nx, .int .i64 h.ld, .int .i64 h.mt, .int .i64 h.rp, .int .i64 h.st, .slice (some ⟨b, 0, none⟩) cs.length cs.length] 63)
          have X4 := row_keeps r8 GA
          have kx := (CkRow.add C8 (x := (⟨h, b, cs.length⟩ : Kr)) (y := (h, cs)) ⟨rfl, rfl, by show w.heap.size ≤ b; omega, ob8⟩).up GA
          have X3 := (Sq.block (f := fK) (xs := [(⟨h, b, cs.length⟩ : Kr)]) (c := 1) (Ob.new w8 63 #[.int .i64 h.at_, .int .i64 h.mn, .int .i64 h.ct, .int .i64 h.nx, .int .i64 h.ld, .int .i64 h.mt, .int .i64 h.rp, .int .i64 h.st, .slice (some ⟨b, 0, none⟩) cs.length cs.length]) rfl rfl (Nat.le_refl _) (by simp [maxLen]))
          have EA := E8.trans GA
          have nC := fun (b : Nat) cs (o : Ob _ b 90 cs) => row_ne X4 o (by decide)
          have no := row_ne X4 (oc8.up GA) (by decide)
          have MA := G8.up GA
          have nm : w.heap.size + 1 ∉ u5.ownBlock.toList := by
            obtain ⟨es, ck, he⟩ := MA.is_map
            exact row_ne_map X4 he
          have oA := o8.up GA
          have ocA := oc8.up GA
          have hsA := EA.size
          have HL := Lib.hid (show xs.length + 1 ≤ 30000 by have := hxl.out; omega)
          clear C8 r8 oc8 ob8 o8 E8 G8
          go_wp2_with (at_builtin; refine wpList_appSq fK_lays rfl _ _ 59 rfl Try.underlying59 ckI rfl (B := w.heap.size) u5 xs rfl X4 _ [(⟨h, b, cs.length⟩ : Kr)] rfl X3 (show xs.length + 1 ≤ 1000000 by have := HL.out; omega) (by decide) hsA ?_; intro a9 c9 w9 r9 F9; generalize hT : xs ++ [(⟨h, b, cs.length⟩ : Kr)] = T at r9 ⊢; have C9 := kx.kept F9 nC; have o9 := oA.kept F9 hnr; have oc9 := ocA.kept F9 no; have M9 := MA.kept F9 nm; have E9 := EA.own F9 (row_base X4); have HT := Lib.hid hT; clear kx oA ocA MA EA X4 X3 nC no nm hnr GA x0 x1 x2 x3 x4 x5 x6 x7 x8 hT F9 hsA; obtain ⟨x0, x1, x2, x3, x4, x5, x6, x7, x8⟩ := ch_cells o9)
          refine (at_any _ _).mono ?_; rintro e _ ⟨rfl, rfl⟩
          go_wp2_with fail
          go_roundw
          case rel =>
            obtain ⟨hb0, hb1⟩ := atU_bd h.nx
            have hxn := HX.out.2
            exact ⟨⟨k, _, acc ++ [a], T, rfl, hb0, hb1, by rw [hxn]; exact hE.out, hT2.out, by simp; omega, r9, by rw [← HT.out, List.map_append, List.map_singleton, HX.out.1]; exact C9, by simpa using M9, E9⟩, oc9⟩
          case measure =>
            have hTl : T.length = xs.length + 1 := by rw [← HT.out]; simp
            show s.l.length + 1 - T.length < s.l.length + 1 - sliceLen u5
            rw [hul.out]
            have := hxl.out
            omega
end Go.Proofs.Ytkdnhaglfbkhfaa.Ch
