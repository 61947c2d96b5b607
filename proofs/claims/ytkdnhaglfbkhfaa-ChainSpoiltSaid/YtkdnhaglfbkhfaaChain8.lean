/- Package chain: what is there now. -/
import Derived.Test.YtkdnhaglfbkhfaaKeys
namespace Go.Proofs.Ytkdnhaglfbkhfaa.Ch
open Go.RowKit Go.Proofs.Ytkdnhaglfbkhfaa.Ar Go.Proofs.Ytkdnhaglfbkhfaa.Mx Go.Proofs.Ytkdnhaglfbkhfaa.Vw
set_option linter.unusedVariables false
set_option linter.unusedSimpArgs false
def fP (x : Int × Int) : List Value := [.int .i64 x.1, .int .i64 x.2]
theorem fP_lays : Lays fP 2 := ⟨fun _ => rfl, fun x u hu => by simp [fP] at hu; rcases hu with rfl | rfl <;> rfl, by decide⟩
theorem prI : (Try.prog.info? 43).map (fun i => (i.zero, i.size, i.bytes)) = some (some (.agg #[.int .i64 0, .int .i64 0]), 2, 16) := by kernel_rfl
theorem itField (k v d : Int) (W : World) : (Instr.field 73 (.agg #[.int .i64 k, .int .i64 v, .int .i64 d]) 2).run Try.prog W = .ok (.int .i64 d) W := by kernel_rfl
theorem val_of (a : Int) (w : World) : Calls Try.prog 30 #[.int .i64 a] w fun e w' => e = .returned (.int .i64 (valW a)) ∧ w = w' := (Word.val_any a w).mono (by rintro e w' ⟨rfl, rfl⟩; exact ⟨rfl, rfl⟩)
theorem insZ_len (x : Int) : ∀ (l : List Int), (insZ x l).length ≤ l.length + 1
  | [] => by simp [insZ]
  | y :: r => by
    have := insZ_len x r
    unfold insZ
    split
    · simp
    · split
      · simp
      · simp; omega
theorem keysZ_len (l : List It) : (keysZ l).length ≤ l.length := by
  unfold keysZ
  suffices h : ∀ (l : List It) (a : List Int), (l.foldl (fun a x => insZ x.k a) a).length ≤ a.length + l.length by have := h l []; simpa using this
  intro l
  induction l with
  | nil => intro a; simp
  | cons x r ih => intro a; rw [List.foldl_cons]; have := ih (insZ x.k a); have := insZ_len x.k a; simp; omega
theorem zn_cell {w : World} {a : Option Addr} {n cap i : Nat} {xs : List Int} {x : Int} (h : Sq fN w (.slice a n cap) xs) (hi : xs[i]? = some x) :
    ∃ g off, a = some ⟨g, off, none⟩ ∧ w.cell? ⟨g, off + i, none⟩ = some (.int .i64 x) := by
  obtain ⟨-, g, off, rfl, hc⟩ := Sq.cell fN_lays h hi
  have := hc 0 _ rfl
  rw [Nat.mul_one, Nat.add_zero] at this
  exact ⟨g, off, rfl, this⟩
def NwAt (w3 : World) (g : Int → Option It) (ks : List Int) (u x : Value) (wr : World) : Prop := ∃ i, i ≤ ks.length ∧ x = .int .i64 (i : Nat) ∧ wr.ownsRow w3.heap.size 43 2 u ((ks.take i).filterMap (nowP g)).length (((ks.take i).filterMap (nowP g)).flatMap fP) ∧ Fr [] w3 wr
set_option maxRecDepth 100000 in
set_option maxHeartbeats 6400000 in
theorem now_any (t wd v : Int) (n p q : Nat) (s : St) (w : World) (ht : 1 ≤ t) (ht2 : t ≤ 8) (h1 : 1 ≤ n) (h2 : n ≤ 16) (h3 : n ≤ s.l.length) (h4 : s.l.length ≤ 20000) (hA : Ar w p q s)
    (hwf : ∀ it, it ∈ itsOf (chunksF (peek s.l) s.l.length n t) → (Lit.int .i64 it.k).wf = true) :
    Calls Try.prog 14 #[.agg #[.int .i64 t, .int .i64 n, .int .i64 wd, .int .i64 v], .pointer (some ⟨p, 0, none⟩)] w fun e w' => (∃ u, e = .returned u ∧ w'.ownsRow w.heap.size 43 2 u (nowL (itsOf (chunksF (peek s.l) s.l.length n t))).length ((nowL (itsOf (chunksF (peek s.l) s.l.length n t))).flatMap fP)) ∧ Fr [] w w' := by
  have F0 := (Fr.refl [] w).alloc (.cells #[.int .i64 t, .int .i64 n, .int .i64 wd, .int .i64 v] 24)
  obtain ⟨c0, c1, c2, c3⟩ := Pl.cells4 (Ob.new w 24 #[.int .i64 t, .int .i64 n, .int .i64 wd, .int .i64 v])
  have H := Lib.hid (chunks_any t wd v n p q s _ ht ht2 h1 h2 h3 h4 (hA.kept F0 (by simp) (by simp)))
  have hcl := chunks_len (peek s.l) s.l.length n t
  have HCE := Lib.hid (And.intro (show ∀ y, y ∈ chunksF (peek s.l) s.l.length n t → y.2.length ≤ 16 from fun y hy => by rw [chunks_cells y hy]; exact h2) hwf)
  clear hwf
  generalize chunksF (peek s.l) s.l.length n t = L at *
  clear hA
  have HIL := Lib.hid (itsOf_len HCE.out.1)
  have HR := Lib.hid (keysZ_rise (itsOf L))
  have HM := Lib.hid (fun k => (latF_some (itsOf L) k))
  have HKL := Lib.hid (keysZ_len (itsOf L))
  have HKW := Lib.hid (show ∀ k, k ∈ keysZ (itsOf L) → (Lit.int .i64 k).wf = true from fun k hk => by obtain ⟨x, hx, rfl⟩ := (mem_keysZ _ _).1 hk; exact HCE.out.2 x hx)
  unfold nowL
  generalize hks : keysZ (itsOf L) = ks at *
  generalize hgg : latF (itsOf L) = g at *
  have HKG := Lib.hid (And.intro hks hgg)
  clear hks hgg
  go_enter Try.func14, Try.ntmps14
  go_wp2_with fail
  clear c0 c1 c2 c3
  refine H.out.mono ?_; rintro e w1 ⟨lv, xs, rfl, hr, hC, F1⟩
  clear H
  have F2 := Lib.hid (F0.trans F1)
  have hxl : xs.length ≤ 20000 := by rw [hC.len]; omega
  have HL := Lib.hid (latest_any xs L lv _ w1 (Sq.own hr) hC hxl HCE.out.1 HCE.out.2)
  have HN := Lib.hid (show (itsOf L).length ≤ 320000 by have := HIL.out; omega)
  clear F0 F1 hr hC
  go_wp2_with fail
  refine HL.out.mono ?_; rintro e w2 ⟨bm, rfl, hbm, hG, F3⟩
  rw [HKG.out.2] at hG
  generalize (itsOf L).length = nn at *
  have HS := Lib.hid (sorted_of bm nn (mapG g) ks w2 hG (by have := HN.out; omega) HR.out (fun k => by unfold mapG; rw [Option.isSome_map, HM.out k]; simp))
  have F4 := Lib.hid (F2.out.trans F3)
  have HG := Lib.hid hG
  clear HL F2 F3 hG
  go_wp2_with fail
  refine (keys_of bm w2).mono ?_; rintro e _ ⟨rfl, rfl⟩
  go_wp2_with fail
  refine HS.out.mono ?_; rintro e w3 ⟨⟨kv, rfl, hk⟩, F5⟩
  have F6 := Lib.hid (((Fr.refl [] w2).alloc _).trans F5)
  have hkr := Lib.hid (Sq.own (f := fN) hk)
  obtain ⟨a, cap, rfl, -, -⟩ := row_cell hk
  clear HS F5 hk
  have hG3 := Lib.hid (HG.out.up F6.out)
  have hkl : ks.length ≤ 1000000 := by have := HKL.out; have := HN.out; omega
  go_wp2_with fail
  go_loopw [6, 18] (NwAt w3 g ks) (fun _ x _ => ks.length - (RowKit.intOf x).toNat)
  case atStart => exact ⟨0, by omega, rfl, ⟨rfl, .inl ⟨rfl, rfl⟩⟩, Fr.refl _ _⟩
  case round =>
    obtain ⟨i, hi, rfl, hr, F⟩ := hrel
    by_cases hlt : i < ks.length
    · obtain ⟨k, hk⟩ : ∃ k, ks[i]? = some k := ⟨ks[i], List.getElem?_eq_getElem hlt⟩
      obtain ⟨gk, ok, rfl, d0⟩ := zn_cell (hkr.out.up F) hk
      have hkm := List.mem_of_getElem? hk
      obtain ⟨x, hx⟩ : ∃ x, g k = some x := by
        have := HM.out k
        rw [decide_eq_true hkm] at this
        exact Option.isSome_iff_exists.1 this
      have hkw := HKW.out k hkm
      have hlk := GMap.look (hG3.out.up F) Try.underlying66 (zeroIt _) hkw false
      rw [if_neg (by simp), show (mapG g k).getD zeroItV = .agg #[.int .i64 x.k, .int .i64 x.v, .int .i64 x.d] by unfold mapG; rw [hx]; rfl] at hlk
      have hfl := itField x.k x.v x.d wr
      have hn : (ks.take (i + 1)).filterMap (nowP g) = (ks.take i).filterMap (nowP g) ++ (nowP g k).toList := by
        rw [List.take_add_one, hk, Option.toList_some, List.filterMap_append]
        cases h : nowP g k <;> simp [h]
      have hnp : nowP g k = if valW x.d = -1 then none else some (k, valW x.d) := by unfold nowP; rw [hx]; rfl
      have hpl : ((ks.take i).filterMap (nowP g)).length ≤ i := by
        have := List.length_filterMap_le (nowP g) (ks.take i); rw [List.length_take] at this; omega
      generalize (ks.take i).filterMap (nowP g) = out at *
      have HX := Lib.hid (And.intro hn (And.intro hnp hpl))
      clear hn hnp hpl hk hkm hx hkw
      go_wp2_with fail
      refine (val_of _ _).mono ?_; rintro e _ ⟨rfl, rfl⟩
      generalize hvv : valW x.d = vv at *
      have HV := Lib.hid hvv
      clear hvv hlk hfl
      by_cases qv : vv = -1
      · have gq : (vv != -1) = false := by simpa using qv
        have HQ := Lib.hid qv
        clear qv
        go_wp2_with fail
        have HF := Lib.hid F
        have HR2 := Lib.hid hr
        clear hr F d0
        go_roundw
        case rel => exact ⟨i + 1, by omega, by go_num, by rw [HX.out.1, HX.out.2.1, if_pos HQ.out]; simpa using HR2.out, HF.out⟩
        case measure => simp [RowKit.intOf]; omega
      · have gq : (vv != -1) = true := by simpa using qv
        have HQ := Lib.hid qv
        clear qv
        have GA := (Fr.refl [] wr).alloc (.cells #[.int .i64 k, .int .i64 vv] 43)
        have X4 := row_keeps hr GA
        have X3 := (Sq.block (f := fP) (xs := [(k, vv)]) (c := 1) (Ob.new wr 43 #[.int .i64 k, .int .i64 vv]) rfl rfl (Nat.le_refl _) (by simp [maxLen]))
        have EA := F.trans GA
        have hsA := EA.size
        clear GA hr
        go_wp2_with (at_builtin; refine wpList_appSq fP_lays rfl _ _ 38 rfl Try.underlying38 prI rfl (B := w3.heap.size) u6 out rfl X4 _ [(k, vv)] rfl X3 (show out.length + 1 ≤ 1000000 by have := HX.out.2.2; omega) (by decide) hsA ?_; intro a9 c9 w9 r9 F9; generalize hT : out ++ [(k, vv)] = T at r9 ⊢; have E9 := EA.own F9 (row_base X4); have HT := Lib.hid hT; clear hT F9 X3 X4 hsA EA)
        go_roundw
        case rel => exact ⟨i + 1, by omega, by go_num, by rw [HX.out.1, HX.out.2.1, if_neg HQ.out, Option.toList_some, HT.out]; exact r9, E9⟩
        case measure => simp [RowKit.intOf]; omega
    · obtain rfl : i = ks.length := by omega
      rw [List.take_length] at hr
      have HR2 := Lib.hid hr
      have HF := Lib.hid F
      clear hr F
      go_wp2
      go_ret
      exact ⟨⟨_, rfl, row_more HR2.out ((F4.out.trans F6.out).size)⟩, (F4.out.trans F6.out).trans HF.out⟩
end Go.Proofs.Ytkdnhaglfbkhfaa.Ch
