/- The walk of ViewItems. -/
import Derived.Test.YtkdnppehlnmlgaaLaws6b
namespace Go.Proofs.Ytkdnppehlnmlgaa.Vw
open Go.RowKit Go.Proofs.Ytkdnppehlnmlgaa.Ar Go.Proofs.Ytkdnppehlnmlgaa.Mx
set_option linter.unusedVariables false
set_option linter.unusedSimpArgs false
def ceAt (zs ks : List Int) (j : Nat) : Ce := ⟨zs.getD j 0 % 12, if j < ks.length then ks.getD j 0 % 64 else 0, 1000 + j⟩
def ceTo (zs ks : List Int) (i : Nat) : List Ce := (List.range i).map (ceAt zs ks)
theorem ceTo_len (zs ks : List Int) (i : Nat) : (ceTo zs ks i).length = i := by unfold ceTo; simp
theorem ceTo_succ (zs ks : List Int) (i : Nat) : ceTo zs ks (i + 1) = ceTo zs ks i ++ [ceAt zs ks i] := by unfold ceTo; rw [List.range_succ, List.map_append]; rfl
theorem itemsC_app (xs : List Ce) (x : Ce) : itemsC (xs ++ [x]) = itemsC xs ++ (itemC x).toList := by
  unfold itemsC
  rw [List.filterMap_append]
  cases h : itemC x <;> simp [h]
theorem rows_apart {w : World} {B E n : Nat} {B2 E2 n2 sz sz2 : Nat} {v v2 : Value} {xs xs2 : List Value} (h : w.ownsRow B E sz v n xs) (h2 : w.ownsRow B2 E2 sz2 v2 n2 xs2) (hE : E ≠ E2) : ∀ g, v2.ownBlock = some g → g ∉ v.ownBlock.toList := by
  intro g hg
  rcases h2.2 with ⟨rfl, _⟩ | ⟨g2, cap, cur, rfl, _, hh, _⟩
  · simp [Value.ownBlock] at hg
  · simp [Value.ownBlock] at hg
    subst hg
    exact row_ne h hh hE
theorem row_lt {w : World} {B E sz n : Nat} {v : Value} {xs : List Value} (h : w.ownsRow B E sz v n xs) : ∀ g, g ∈ v.ownBlock.toList → g < w.heap.size := fun g hg => (h.lt g (by simpa using hg)).2
def xh : Hd := ⟨5, 0, 0, 0, 0, 0, 0, 0⟩
def ViAt (w : World) (bx : Nat) (zs ks : List Int) (u6 u7 : Value) (wr : World) : Prop := ∃ i lv, i ≤ zs.length ∧ u7 = .int .i64 (i : Nat) ∧ Ob wr bx 26 (chC xh lv) ∧
  wr.ownsRow w.heap.size 29 3 lv (ceTo zs ks i).length ((ceTo zs ks i).flatMap fC) ∧ wr.ownsRow w.heap.size 31 3 u6 (itemsC (ceTo zs ks i)).length ((itemsC (ceTo zs ks i)).flatMap fT) ∧ Fr [] w wr
set_option maxRecDepth 100000 in
set_option maxHeartbeats 6400000 in
theorem items_true (zs ks : List Int) (u v : Value) (w : World) (hu : Law.Ints w .u8 u zs) (hv : Law.Ints w .u8 v ks) :
    Calls Try.prog 3 #[u, v] w fun e w' => e = .returned (.bool true) ∧ Fr [] w w' := by
  obtain ⟨a, cap, rfl, hl, hz, hc⟩ := hu
  obtain ⟨a2, cap2, rfl, hl2, hz2, hc2⟩ := hv
  unfold maxLen at hl hl2
  have HC := Lib.hid (And.intro hz hc)
  have HC2 := Lib.hid (And.intro hz2 hc2)
  clear hz hc hz2 hc2
  go_enter Try.func3, Try.ntmps3
  go_wp2_with fail
  refine (known_true _).mono ?_; rintro e w1 ⟨rfl, F1⟩
  by_cases hle : zs.length ≤ 16
  · have g1 : decide ((zs.length : Int) > 16) = false := by simp; omega
    have F2 := F1.alloc (.cells (chC xh (.slice none 0 0)) 26)
    have ox := Ob.new w1 26 (chC xh (.slice none 0 0))
    have hbx : w.heap.size ≤ w1.heap.size := F1.size
    unfold chC xh at F2 ox
    simp only at F2 ox
    go_wp2_with fail
    clear g1 F1
    generalize (w1.alloc (.cells #[.int .i64 5, .int .i64 0, .int .i64 0, .int .i64 0, .int .i64 0, .int .i64 0, .int .i64 0, .int .i64 0, .slice none 0 0] 26)) = w2 at *
    generalize hbb : w1.heap.size = bx at *
    go_loopw [6, 7] (ViAt w bx zs ks) (fun _ x _ => zs.length - (intOf x).toNat)
    case atStart => exact ⟨0, _, Nat.zero_le _, rfl, ox, ⟨rfl, .inl ⟨rfl, rfl⟩⟩, ⟨rfl, .inl ⟨rfl, rfl⟩⟩, F2⟩
    case round =>
      obtain ⟨i, lv, hi, rfl, o, rc, ri, F⟩ := hrel
      by_cases hlt : i < zs.length
      · have hz12 : 0 ≤ zs.getD i 0 % 12 ∧ zs.getD i 0 % 12 < 12 := by omega
        have hce : ceAt zs ks i = ⟨zs.getD i 0 % 12, if i < ks.length then ks.getD i 0 % 64 else 0, 1000 + i⟩ := rfl
        rcases HC.out.2 with h0 | ⟨b, off, rfl, hb, hcell⟩
        · omega
        have d0 := F.cell (hcell i hlt) (by simp)
        have hwz : 0 ≤ zs.getD i 0 ∧ zs.getD i 0 < 256 := by
          have := HC.out.1 (zs.getD i 0) (by rw [List.getD_eq_getElem?_getD, List.getElem?_eq_getElem hlt]; exact List.getElem_mem hlt)
          have := bounds_u8 this; omega
        have hcn := Lib.hid (ceTo_succ zs ks i)
        have hlen := ceTo_len zs ks i
        clear hcell
        generalize hst : zs.getD i 0 = zst at *
        have hst' := Lib.hid hst
        clear hst hz12
        have hz12 : 0 ≤ zst % 12 ∧ zst % 12 < 12 := by omega
        by_cases hk : i < ks.length
        · rcases HC2.out.2 with h0 | ⟨b2, off2, rfl, hb2, hcell2⟩
          · omega
          have e0 := F.cell (hcell2 i hk) (by simp)
          have hwk : 0 ≤ ks.getD i 0 ∧ ks.getD i 0 < 256 := by
            have := HC2.out.1 (ks.getD i 0) (by rw [List.getD_eq_getElem?_getD, List.getElem?_eq_getElem hk]; exact List.getElem_mem hk)
            have := bounds_u8 this; omega
          rw [if_pos hk] at hce
          generalize ks.getD i 0 = zk at *
          clear hcell2
          have hb2w : b2 < wr.heap.size := by have := F.size; omega
          have hk64 : 0 ≤ zk % 64 ∧ zk % 64 < 64 := by omega
          have hce' := Lib.hid hce
          clear hce
          by_cases h3 : 3 ≤ zst % 12
          · have h3' : decide (zst % 12 > 2) = true := by simp; omega
            have FA := (Fr.refl [] wr).alloc (.cells #[.int .i64 (zst % 12), .int .i64 0, .int .i64 (1000 + i)] 29)
            have oa := Ob.new wr 29 #[.int .i64 (zst % 12), .int .i64 0, .int .i64 (1000 + i)]
            have FB := (Fr.refl [] wr).alloc (.cells #[.int .i64 (zst % 12), .int .i64 (zk % 64), .int .i64 (1000 + i)] 29)
            have ob := Ob.new wr 29 #[.int .i64 (zst % 12), .int .i64 (zk % 64), .int .i64 (1000 + i)]
            have FC := FB.alloc (.cells #[.int .i64 (zst % 12), .int .i64 (zk % 64), .int .i64 (1000 + i)] 29)
            have on := Ob.newAt (w := (wr.alloc (.cells #[.int .i64 (zst % 12), .int .i64 (zk % 64), .int .i64 (1000 + i)] 29))) (n := wr.heap.size + 1) (by simp) 29 #[.int .i64 (zst % 12), .int .i64 (zk % 64), .int .i64 (1000 + i)]
            have oc := ob.alloc (.cells #[.int .i64 (zst % 12), .int .i64 (zk % 64), .int .i64 (1000 + i)] 29)
            have ox1 := o.up FC
            have rc1 := row_keeps rc FC
            have ri1 := row_keeps ri FC
            have hnx := row_ne rc1 ox1 (by decide)
            have hap := rows_apart rc1 ri1 (by decide)
            have hnc : wr.heap.size ∉ lv.ownBlock.toList := fun hg => absurd (row_lt rc _ hg) (by simp)
            have hLI := Lib.hid (Nat.le_trans (itemsC_length (ceTo zs ks i)) (by rw [hlen]; omega : (ceTo zs ks i).length ≤ 1000))
            have HLN := Lib.hid hlen
            clear hlen
            have hbxw := o.lt
            obtain ⟨-, -, -, -, -, -, -, -, xo8⟩ := ch_cells (h := xh) o
            go_wp2_with (first | (at_builtin; refine wpList_appSq fT_lays rfl _ _ 27 rfl Try.underlying27 itI rfl (B := w.heap.size) _ (itemsC (ceTo zs ks i)) rfl ri9 _ [⟨(zk % 64), zst % 12 - 3, 1000 + i⟩] rfl (Sq.block o9 rfl rfl (Nat.le_refl _) (by simp [maxLen])) (by have := hLI.out; simp only [List.length_cons, List.length_nil]; omega) (by decide) (Nat.le_trans hs9 F9.size) ?_; intro aq cq wq rq Fq; generalize hU : itemsC (ceTo zs ks i) ++ [(⟨(zk % 64), zst % 12 - 3, 1000 + i⟩ : It)] = U at rq ⊢) | (at_builtin; refine wpList_appSq fC_lays rfl _ _ 24 rfl Try.underlying24 ceI rfl (B := w.heap.size) _ (ceTo zs ks i) rfl rc1 _ [⟨zst % 12, (zk % 64), 1000 + i⟩] rfl (Sq.block on rfl rfl (Nat.le_refl _) (by simp [maxLen])) (by have := HLN.out; simp only [List.length_cons, List.length_nil]; omega) (by decide) (Nat.le_trans F.size FC.size) ?_; intro a7 c7 w7 r7 F7; generalize hT : ceTo zs ks i ++ [(⟨zst % 12, (zk % 64), 1000 + i⟩ : Ce)] = T at r7 ⊢; have ox7 := ox1.kept F7 hnx; have oc7 := oc.kept F7 hnc; have ri7 := row_fr ri1 F7 hap; obtain ⟨-, -, -, -, -, -, -, -, x8⟩ := ch_cells (h := xh) ox7; have z := ox7.frozen; have c0 : w7.cell? ⟨wr.heap.size, 0, none⟩ = some (.int .i64 (zst % 12)) := oc7.cell (i := 0) rfl; have c1 : w7.cell? ⟨wr.heap.size, 1, none⟩ = some (.int .i64 (zk % 64)) := oc7.cell (i := 1) rfl; have c2 : w7.cell? ⟨wr.heap.size, 2, none⟩ = some (.int .i64 (1000 + i)) := oc7.cell (i := 2) rfl; have hne : bx ≠ wr.heap.size := (by omega); have F8 : Fr [bx] w7 (w7.setCell ⟨bx, 8, none⟩ (.slice a7 T.length c7)) := Fr.setCell (b := bx) (i := 8) _ (by simp); have o8 : Ob (w7.setCell ⟨bx, 8, none⟩ (.slice a7 T.length c7)) bx 26 (chC xh (.slice a7 T.length c7)) := Ob.set ox7 (i := 8) (.slice a7 T.length c7); have r8 := row_fr r7 F8 (fun g hg hi => by rw [List.mem_singleton.1 hi] at hg; exact row_ne r7 ox7 (by decide) (by simp [hg])); have ri8 := row_fr ri7 F8 (fun g hg hi => by rw [List.mem_singleton.1 hi] at hg; exact row_ne ri7 ox7 (by decide) (by simp [hg])); have F9 := (Fr.refl [] (w7.setCell ⟨bx, 8, none⟩ (.slice a7 T.length c7))).alloc (.cells #[.int .i64 (zk % 64), .int .i64 (zst % 12 - 3), .int .i64 (1000 + i)] 31); have o9 := Ob.newAt (w := (w7.setCell ⟨bx, 8, none⟩ (.slice a7 T.length c7))) (n := w7.heap.size) (by simp) 31 #[.int .i64 (zk % 64), .int .i64 (zst % 12 - 3), .int .i64 (1000 + i)]; have ri9 := row_keeps ri8 F9; have hs9 : w.heap.size ≤ (w7.setCell ⟨bx, 8, none⟩ (.slice a7 T.length c7)).heap.size := Nat.le_trans (Nat.le_trans (Nat.le_trans F.size FC.size) F7.size) F8.size))
            have eT : ceTo zs ks (i + 1) = T := by rw [hcn.out, hce'.out, hT]
            have eI : itemsC (ceTo zs ks (i + 1)) = U := by
              rw [hcn.out, itemsC_app, hce'.out, ← hU]
              have e5 : verV (zst % 12) = zst % 12 - 3 := by unfold verV; rw [if_neg (by omega), w64 (by omega) (by omega)]
              simp [itemC, h3, e5]
            have o10 := (o8.up F9).kept Fq (row_ne ri9 (o8.up F9) (by decide))
            have r10 := row_fr (row_keeps r8 F9) Fq (rows_apart ri9 (row_keeps r8 F9) (by decide))
            have G := ((((F.trans FC).own F7 (row_base rc1)).own F8 (by simp; omega)).trans F9).own Fq (row_base ri9)
            exact ⟨⟨i + 1, _, by omega, by go_num, o10, by rw [eT]; exact r10, by rw [eI]; exact rq, G⟩, by simp [intOf]; omega⟩
          · have h3' : decide (zst % 12 > 2) = false := by simp; omega
            have FA := (Fr.refl [] wr).alloc (.cells #[.int .i64 (zst % 12), .int .i64 0, .int .i64 (1000 + i)] 29)
            have oa := Ob.new wr 29 #[.int .i64 (zst % 12), .int .i64 0, .int .i64 (1000 + i)]
            have FB := (Fr.refl [] wr).alloc (.cells #[.int .i64 (zst % 12), .int .i64 (zk % 64), .int .i64 (1000 + i)] 29)
            have ob := Ob.new wr 29 #[.int .i64 (zst % 12), .int .i64 (zk % 64), .int .i64 (1000 + i)]
            have FC := FB.alloc (.cells #[.int .i64 (zst % 12), .int .i64 (zk % 64), .int .i64 (1000 + i)] 29)
            have on := Ob.newAt (w := (wr.alloc (.cells #[.int .i64 (zst % 12), .int .i64 (zk % 64), .int .i64 (1000 + i)] 29))) (n := wr.heap.size + 1) (by simp) 29 #[.int .i64 (zst % 12), .int .i64 (zk % 64), .int .i64 (1000 + i)]
            have oc := ob.alloc (.cells #[.int .i64 (zst % 12), .int .i64 (zk % 64), .int .i64 (1000 + i)] 29)
            have ox1 := o.up FC
            have rc1 := row_keeps rc FC
            have ri1 := row_keeps ri FC
            have hnx := row_ne rc1 ox1 (by decide)
            have hap := rows_apart rc1 ri1 (by decide)
            have hnc : wr.heap.size ∉ lv.ownBlock.toList := fun hg => absurd (row_lt rc _ hg) (by simp)
            have hLI := Lib.hid (Nat.le_trans (itemsC_length (ceTo zs ks i)) (by rw [hlen]; omega : (ceTo zs ks i).length ≤ 1000))
            have HLN := Lib.hid hlen
            clear hlen
            have hbxw := o.lt
            obtain ⟨-, -, -, -, -, -, -, -, xo8⟩ := ch_cells (h := xh) o
            go_wp2_with (at_builtin; refine wpList_appSq fC_lays rfl _ _ 24 rfl Try.underlying24 ceI rfl (B := w.heap.size) _ (ceTo zs ks i) rfl rc1 _ [⟨zst % 12, (zk % 64), 1000 + i⟩] rfl (Sq.block on rfl rfl (Nat.le_refl _) (by simp [maxLen])) (by have := HLN.out; simp only [List.length_cons, List.length_nil]; omega) (by decide) (Nat.le_trans F.size FC.size) ?_; intro a7 c7 w7 r7 F7; generalize hT : ceTo zs ks i ++ [(⟨zst % 12, (zk % 64), 1000 + i⟩ : Ce)] = T at r7 ⊢; have ox7 := ox1.kept F7 hnx; have oc7 := oc.kept F7 hnc; have ri7 := row_fr ri1 F7 hap; obtain ⟨-, -, -, -, -, -, -, -, x8⟩ := ch_cells (h := xh) ox7; have z := ox7.frozen; have c0 : w7.cell? ⟨wr.heap.size, 0, none⟩ = some (.int .i64 (zst % 12)) := oc7.cell (i := 0) rfl; have c1 : w7.cell? ⟨wr.heap.size, 1, none⟩ = some (.int .i64 (zk % 64)) := oc7.cell (i := 1) rfl; have c2 : w7.cell? ⟨wr.heap.size, 2, none⟩ = some (.int .i64 (1000 + i)) := oc7.cell (i := 2) rfl; have hne : bx ≠ wr.heap.size := (by omega))
            have F8 : Fr [bx] w7 (w7.setCell ⟨bx, 8, none⟩ (.slice a7 T.length c7)) := Fr.setCell (b := bx) (i := 8) _ (by simp)
            have o8 : Ob (w7.setCell ⟨bx, 8, none⟩ (.slice a7 T.length c7)) bx 26 (chC xh (.slice a7 T.length c7)) := Ob.set ox7 (i := 8) (.slice a7 T.length c7)
            have r8 := row_fr r7 F8 (fun g hg hi => by rw [List.mem_singleton.1 hi] at hg; exact row_ne r7 ox7 (by decide) (by simp [hg]))
            have ri8 := row_fr ri7 F8 (fun g hg hi => by rw [List.mem_singleton.1 hi] at hg; exact row_ne ri7 ox7 (by decide) (by simp [hg]))
            have eT : ceTo zs ks (i + 1) = T := by rw [hcn.out, hce'.out, hT]
            have eI : itemsC (ceTo zs ks (i + 1)) = itemsC (ceTo zs ks i) := by rw [hcn.out, itemsC_app, hce'.out]; simp [itemC, h3]
            have G := ((F.trans FC).own F7 (row_base rc1)).own F8 (by simp; omega)
            exact ⟨⟨i + 1, _, by omega, by go_num, o8, by rw [eT]; exact r8, by rw [eI]; exact ri8, G⟩, by simp [intOf]; omega⟩
        · have hgk : decide ((i : Int) < ks.length) = false := by simp; omega
          rw [if_neg hk] at hce
          have hce' := Lib.hid hce
          clear hce
          by_cases h3 : 3 ≤ zst % 12
          · have h3' : decide (zst % 12 > 2) = true := by simp; omega
            have FA := (Fr.refl [] wr).alloc (.cells #[.int .i64 (zst % 12), .int .i64 0, .int .i64 (1000 + i)] 29)
            have oa := Ob.new wr 29 #[.int .i64 (zst % 12), .int .i64 0, .int .i64 (1000 + i)]
            have FB := FA
            have ob := oa
            have FC := FB.alloc (.cells #[.int .i64 (zst % 12), .int .i64 0, .int .i64 (1000 + i)] 29)
            have on := Ob.newAt (w := (wr.alloc (.cells #[.int .i64 (zst % 12), .int .i64 0, .int .i64 (1000 + i)] 29))) (n := wr.heap.size + 1) (by simp) 29 #[.int .i64 (zst % 12), .int .i64 0, .int .i64 (1000 + i)]
            have oc := ob.alloc (.cells #[.int .i64 (zst % 12), .int .i64 0, .int .i64 (1000 + i)] 29)
            have ox1 := o.up FC
            have rc1 := row_keeps rc FC
            have ri1 := row_keeps ri FC
            have hnx := row_ne rc1 ox1 (by decide)
            have hap := rows_apart rc1 ri1 (by decide)
            have hnc : wr.heap.size ∉ lv.ownBlock.toList := fun hg => absurd (row_lt rc _ hg) (by simp)
            have hLI := Lib.hid (Nat.le_trans (itemsC_length (ceTo zs ks i)) (by rw [hlen]; omega : (ceTo zs ks i).length ≤ 1000))
            have HLN := Lib.hid hlen
            clear hlen
            have hbxw := o.lt
            obtain ⟨-, -, -, -, -, -, -, -, xo8⟩ := ch_cells (h := xh) o
            go_wp2_with (first | (at_builtin; refine wpList_appSq fT_lays rfl _ _ 27 rfl Try.underlying27 itI rfl (B := w.heap.size) _ (itemsC (ceTo zs ks i)) rfl ri9 _ [⟨0, zst % 12 - 3, 1000 + i⟩] rfl (Sq.block o9 rfl rfl (Nat.le_refl _) (by simp [maxLen])) (by have := hLI.out; simp only [List.length_cons, List.length_nil]; omega) (by decide) (Nat.le_trans hs9 F9.size) ?_; intro aq cq wq rq Fq; generalize hU : itemsC (ceTo zs ks i) ++ [(⟨0, zst % 12 - 3, 1000 + i⟩ : It)] = U at rq ⊢) | (at_builtin; refine wpList_appSq fC_lays rfl _ _ 24 rfl Try.underlying24 ceI rfl (B := w.heap.size) _ (ceTo zs ks i) rfl rc1 _ [⟨zst % 12, 0, 1000 + i⟩] rfl (Sq.block on rfl rfl (Nat.le_refl _) (by simp [maxLen])) (by have := HLN.out; simp only [List.length_cons, List.length_nil]; omega) (by decide) (Nat.le_trans F.size FC.size) ?_; intro a7 c7 w7 r7 F7; generalize hT : ceTo zs ks i ++ [(⟨zst % 12, 0, 1000 + i⟩ : Ce)] = T at r7 ⊢; have ox7 := ox1.kept F7 hnx; have oc7 := oc.kept F7 hnc; have ri7 := row_fr ri1 F7 hap; obtain ⟨-, -, -, -, -, -, -, -, x8⟩ := ch_cells (h := xh) ox7; have z := ox7.frozen; have c0 : w7.cell? ⟨wr.heap.size, 0, none⟩ = some (.int .i64 (zst % 12)) := oc7.cell (i := 0) rfl; have c1 : w7.cell? ⟨wr.heap.size, 1, none⟩ = some (.int .i64 0) := oc7.cell (i := 1) rfl; have c2 : w7.cell? ⟨wr.heap.size, 2, none⟩ = some (.int .i64 (1000 + i)) := oc7.cell (i := 2) rfl; have hne : bx ≠ wr.heap.size := (by omega); have F8 : Fr [bx] w7 (w7.setCell ⟨bx, 8, none⟩ (.slice a7 T.length c7)) := Fr.setCell (b := bx) (i := 8) _ (by simp); have o8 : Ob (w7.setCell ⟨bx, 8, none⟩ (.slice a7 T.length c7)) bx 26 (chC xh (.slice a7 T.length c7)) := Ob.set ox7 (i := 8) (.slice a7 T.length c7); have r8 := row_fr r7 F8 (fun g hg hi => by rw [List.mem_singleton.1 hi] at hg; exact row_ne r7 ox7 (by decide) (by simp [hg])); have ri8 := row_fr ri7 F8 (fun g hg hi => by rw [List.mem_singleton.1 hi] at hg; exact row_ne ri7 ox7 (by decide) (by simp [hg])); have F9 := (Fr.refl [] (w7.setCell ⟨bx, 8, none⟩ (.slice a7 T.length c7))).alloc (.cells #[.int .i64 0, .int .i64 (zst % 12 - 3), .int .i64 (1000 + i)] 31); have o9 := Ob.newAt (w := (w7.setCell ⟨bx, 8, none⟩ (.slice a7 T.length c7))) (n := w7.heap.size) (by simp) 31 #[.int .i64 0, .int .i64 (zst % 12 - 3), .int .i64 (1000 + i)]; have ri9 := row_keeps ri8 F9; have hs9 : w.heap.size ≤ (w7.setCell ⟨bx, 8, none⟩ (.slice a7 T.length c7)).heap.size := Nat.le_trans (Nat.le_trans (Nat.le_trans F.size FC.size) F7.size) F8.size))
            have eT : ceTo zs ks (i + 1) = T := by rw [hcn.out, hce'.out, hT]
            have eI : itemsC (ceTo zs ks (i + 1)) = U := by
              rw [hcn.out, itemsC_app, hce'.out, ← hU]
              have e5 : verV (zst % 12) = zst % 12 - 3 := by unfold verV; rw [if_neg (by omega), w64 (by omega) (by omega)]
              simp [itemC, h3, e5]
            have o10 := (o8.up F9).kept Fq (row_ne ri9 (o8.up F9) (by decide))
            have r10 := row_fr (row_keeps r8 F9) Fq (rows_apart ri9 (row_keeps r8 F9) (by decide))
            have G := ((((F.trans FC).own F7 (row_base rc1)).own F8 (by simp; omega)).trans F9).own Fq (row_base ri9)
            exact ⟨⟨i + 1, _, by omega, by go_num, o10, by rw [eT]; exact r10, by rw [eI]; exact rq, G⟩, by simp [intOf]; omega⟩
          · have h3' : decide (zst % 12 > 2) = false := by simp; omega
            have FA := (Fr.refl [] wr).alloc (.cells #[.int .i64 (zst % 12), .int .i64 0, .int .i64 (1000 + i)] 29)
            have oa := Ob.new wr 29 #[.int .i64 (zst % 12), .int .i64 0, .int .i64 (1000 + i)]
            have FB := FA
            have ob := oa
            have FC := FB.alloc (.cells #[.int .i64 (zst % 12), .int .i64 0, .int .i64 (1000 + i)] 29)
            have on := Ob.newAt (w := (wr.alloc (.cells #[.int .i64 (zst % 12), .int .i64 0, .int .i64 (1000 + i)] 29))) (n := wr.heap.size + 1) (by simp) 29 #[.int .i64 (zst % 12), .int .i64 0, .int .i64 (1000 + i)]
            have oc := ob.alloc (.cells #[.int .i64 (zst % 12), .int .i64 0, .int .i64 (1000 + i)] 29)
            have ox1 := o.up FC
            have rc1 := row_keeps rc FC
            have ri1 := row_keeps ri FC
            have hnx := row_ne rc1 ox1 (by decide)
            have hap := rows_apart rc1 ri1 (by decide)
            have hnc : wr.heap.size ∉ lv.ownBlock.toList := fun hg => absurd (row_lt rc _ hg) (by simp)
            have hLI := Lib.hid (Nat.le_trans (itemsC_length (ceTo zs ks i)) (by rw [hlen]; omega : (ceTo zs ks i).length ≤ 1000))
            have HLN := Lib.hid hlen
            clear hlen
            have hbxw := o.lt
            obtain ⟨-, -, -, -, -, -, -, -, xo8⟩ := ch_cells (h := xh) o
            go_wp2_with (at_builtin; refine wpList_appSq fC_lays rfl _ _ 24 rfl Try.underlying24 ceI rfl (B := w.heap.size) _ (ceTo zs ks i) rfl rc1 _ [⟨zst % 12, 0, 1000 + i⟩] rfl (Sq.block on rfl rfl (Nat.le_refl _) (by simp [maxLen])) (by have := HLN.out; simp only [List.length_cons, List.length_nil]; omega) (by decide) (Nat.le_trans F.size FC.size) ?_; intro a7 c7 w7 r7 F7; generalize hT : ceTo zs ks i ++ [(⟨zst % 12, 0, 1000 + i⟩ : Ce)] = T at r7 ⊢; have ox7 := ox1.kept F7 hnx; have oc7 := oc.kept F7 hnc; have ri7 := row_fr ri1 F7 hap; obtain ⟨-, -, -, -, -, -, -, -, x8⟩ := ch_cells (h := xh) ox7; have z := ox7.frozen; have c0 : w7.cell? ⟨wr.heap.size, 0, none⟩ = some (.int .i64 (zst % 12)) := oc7.cell (i := 0) rfl; have c1 : w7.cell? ⟨wr.heap.size, 1, none⟩ = some (.int .i64 0) := oc7.cell (i := 1) rfl; have c2 : w7.cell? ⟨wr.heap.size, 2, none⟩ = some (.int .i64 (1000 + i)) := oc7.cell (i := 2) rfl; have hne : bx ≠ wr.heap.size := (by omega))
            have F8 : Fr [bx] w7 (w7.setCell ⟨bx, 8, none⟩ (.slice a7 T.length c7)) := Fr.setCell (b := bx) (i := 8) _ (by simp)
            have o8 : Ob (w7.setCell ⟨bx, 8, none⟩ (.slice a7 T.length c7)) bx 26 (chC xh (.slice a7 T.length c7)) := Ob.set ox7 (i := 8) (.slice a7 T.length c7)
            have r8 := row_fr r7 F8 (fun g hg hi => by rw [List.mem_singleton.1 hi] at hg; exact row_ne r7 ox7 (by decide) (by simp [hg]))
            have ri8 := row_fr ri7 F8 (fun g hg hi => by rw [List.mem_singleton.1 hi] at hg; exact row_ne ri7 ox7 (by decide) (by simp [hg]))
            have eT : ceTo zs ks (i + 1) = T := by rw [hcn.out, hce'.out, hT]
            have eI : itemsC (ceTo zs ks (i + 1)) = itemsC (ceTo zs ks i) := by rw [hcn.out, itemsC_app, hce'.out]; simp [itemC, h3]
            have G := ((F.trans FC).own F7 (row_base rc1)).own F8 (by simp; omega)
            exact ⟨⟨i + 1, _, by omega, by go_num, o8, by rw [eT]; exact r8, by rw [eI]; exact ri8, G⟩, by simp [intOf]; omega⟩
      · obtain rfl : i = zs.length := by omega
        have h4 := itemsC_length (ceTo zs ks zs.length)
        rw [ceTo_len] at h4
        have sri := Sq.own ri
        have src := Sq.own rc
        have hLC := ceTo_len zs ks zs.length
        obtain ⟨x0, x1, x2, x3, x4, x5, x6, x7, x8⟩ := ch_cells (h := xh) o
        unfold xh at x0 x1 x2 x3 x4 x5 x6 x7
        simp only at x0 x1 x2 x3 x4 x5 x6 x7
        have HL := Lib.hid hLC
        clear hLC
        go_wp2_with fail
        refine (items_any xh (ceTo zs ks zs.length) _ _ (by have := HL.out; omega) ⟨lv, rfl, src⟩).mono ?_; rintro e w5 ⟨⟨u5, rfl, r5⟩, F5⟩
        clear x0 x1 x2 x3 x4 x5 x6 x7 x8
        have s5 := Sq.own r5
        have sri5 := sri.up F5
        obtain ⟨a5, c5, rfl, -, -, -⟩ := id s5
        obtain ⟨a6, c6, rfl, -, -, -⟩ := id sri5
        go_wp2_with fail
        refine (sameItems_any _ _ _ _ _ (by omega) (by omega) s5 sri5).mono ?_; rintro e w6 ⟨rfl, F6⟩
        rw [show decide (itemsC (ceTo zs ks zs.length) = itemsC (ceTo zs ks zs.length)) = true by simp]
        go_wp2
        go_ret
        exact ⟨rfl, (F.trans F5).trans F6⟩
  · have g1 : decide ((zs.length : Int) > 16) = true := by simp; omega
    go_wp2
    go_ret
    exact ⟨rfl, F1⟩
end Go.Proofs.Ytkdnppehlnmlgaa.Vw
