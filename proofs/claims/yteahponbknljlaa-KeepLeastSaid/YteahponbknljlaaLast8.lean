/- slices.SortedFunc at items; package keep's lastOfEachSlot, isGreatest. -/
import Derived.Test.YteahponbknljlaaSlot8
import Derived.Shelf.SlSortCmp.NoneTotal
namespace Go.Proofs.Yteahponbknljlaa.Kp
open Go.RowKit Go.Maps Go.Sort Go.Shelf Go.Proofs.Yteahponbknljlaa.Ar Go.Proofs.Yteahponbknljlaa.Mx
set_option linter.unusedVariables false
set_option linter.unusedSimpArgs false
set_option maxHeartbeats 1600000 in
theorem sfn_any (u : Value) (xs : List It) (w : World) (B : Nat) (h : w.ownsRow B 26 3 u xs.length (xs.flatMap fT)) (hl : xs.length ≤ 1000) :
    Calls Try.prog 47 #[u, .func (.func 22) #[] #[]] w fun e w' =>
      e = .returned (.tuple #[]) ∧ ∃ c : List It, c.Perm xs ∧ Srt c ∧ w'.ownsRow B 26 3 u c.length (c.flatMap fT) ∧ Fr u.ownBlock.toList w w' := by
  rcases h.2 with ⟨rfl, h0⟩ | ⟨g, cap, cur, rfl, hbase, hb, h1, h2, h3, h4⟩
  · obtain rfl := List.eq_nil_of_length_eq_zero h0
    have H := AnyF.slices_SortFunc_none (ρ := Try.sortF_ren) { Try.sortF with } none 0 (.func (.func 22) #[] #[]) w
    refine Calls.mono H ?_
    rintro e w' ⟨rfl, rfl⟩
    exact ⟨rfl, [], List.Perm.refl _, List.Pairwise.nil, h, Fr.refl _ _⟩
  · have R := rowK_of hb h4
    have H := AnyQ.slices_SortFunc Try.sortF 3 (by intro w; kernel_rfl) (by intro w; kernel_rfl) fT (fun _ => rfl) R.h1 cfT cfT_swo 22 #[] g 0 cap xs.toArray w (enters_of Try.func22 (by kernel_rfl) rfl) (cmpLays g 0 _ w) R.hH R.hblk (by simp; omega)
    refine Calls.mono H ?_
    rintro e w' ⟨rfl, d', n, os, hp, hs, rfl⟩
    have hsz : d'.size = xs.length := by have := hp.1; simpa using this
    obtain ⟨o1, o2⟩ := own_swk hbase hb h1 h2 h3 (⟨n, os, rfl⟩ : SWK fT 3 w g 0 d' _) hsz
    refine ⟨rfl, d'.toList, ?_, ?_, ?_, o2.mono (by simp [Value.ownBlock])⟩
    · have := hp.2.2
      rw [show (d'.extract 0 xs.toArray.size) = d' by rw [show xs.toArray.size = d'.size by simp [hsz]]; simp, show (xs.toArray.extract 0 xs.toArray.size) = xs.toArray by simp] at this
      simpa using this
    · unfold Srt
      rw [List.pairwise_iff_getElem]
      intro i j hi hj hij
      simp at hi hj
      have := hs i j (Nat.zero_le _) hij (by simp; omega)
      simp only [ltOf, decide_eq_false_iff_not, cfT_lt] at this
      have := not_ltT.1 this
      simpa [hi, hj] using this
    · rw [show d'.toList.length = xs.length by simp [hsz]]; exact o1
set_option maxHeartbeats 1600000 in
/-- slices.SortedFunc(seq, compare). -/
theorem sfunc_any (g : Nat) (lb : Array Value) (eg : ∀ args w, (callFunc g args).run Try.prog w = .ok (.enter g args) w) (S : List It → Prop) (N : Nat) (hN : N ≤ 1000) (w : World) (hseq : Feeds 3 Try.prog g lb ApT.enc S N w) (hS : ∀ ss, S ss → ss.length ≤ 1000) :
    Calls Try.prog 37 #[.func (.func g) #[] lb, .func (.func 22) #[] #[]] w fun e w' => ∃ u ss c, e = .returned u ∧ S ss ∧ List.Perm c ss ∧ Srt c ∧ w'.ownsRow w.heap.size 26 3 u c.length (c.flatMap fT) ∧ Fr [] w w' := by
  have H := callsIn_wide.1 (ApT.collect 5 (by omega) g lb eg S N hN w hseq)
  clear hseq
  go_enter Try.func37, Try.ntmps37
  go_wp2_with fail
  refine H.mono ?_
  rintro e w1 ⟨u, ss, rfl, hs, hrow, hb⟩
  have H2 := sfn_any u ss w1 w.heap.size hrow (hS ss hs)
  have F1 := ApT.fr_of hb
  have HO := Lib.hid (own_lt hrow)
  clear H hrow hb
  go_wp2_with fail
  refine H2.mono ?_
  rintro e w2 ⟨rfl, c, hp, hc, hrow2, F2⟩
  have F3 := F1.own F2 HO.out
  have HC := Lib.hid (And.intro hp hc)
  clear H2 hp hc
  go_wp2_with fail
  go_ret
  exact ⟨u, ss, c, rfl, hs, HC.out.1, HC.out.2, hrow2, F3⟩
theorem len_le : ∀ (a b : List It), a.Nodup → (∀ x ∈ a, x ∈ b) → a.length ≤ b.length
  | [], b, _, _ => Nat.zero_le _
  | x :: a, b, h, hs => by
    have hx := hs x (by simp)
    have hn := List.nodup_cons.1 h
    have h1 := len_le a (b.erase x) hn.2 (fun y hy => (List.mem_erase_of_ne (fun e => hn.1 (by rw [← e]; exact hy))).2 (hs y (by simp [hy])))
    rw [List.length_erase_of_mem hx] at h1
    have := List.length_pos_of_mem hx
    rw [List.length_cons]; omega
/-- The last item of a key and a version. -/
def gT (l : List It) (k f : Int) : Option It := (l.filter (atS k f)).getLast?
theorem gT_step {l : List It} {i : Nat} {x : It} (hx : l[i]? = some x) : putT (gT (l.take i)) x = gT (l.take (i + 1)) := by
  funext k f
  unfold putT gT
  rw [List.take_add_one, hx, Option.toList_some, List.filter_append]
  by_cases h : k = x.k ∧ f = x.v
  · rw [if_pos h, List.filter_cons_of_pos (atS_iff.2 ⟨h.1.symm, h.2.symm⟩)]; simp
  · rw [if_neg h, List.filter_cons_of_neg (fun e => h ⟨(atS_iff.1 e).1.symm, (atS_iff.1 e).2.symm⟩)]; simp
theorem lt_of_apart {c : List It} (h : Srt c) (a : c.Pairwise fun a b => ¬ (a.k = b.k ∧ a.v = b.v)) : c.Pairwise ltT := by
  have := h.and a
  exact this.imp fun {x y} hh => by obtain ⟨h1, h2⟩ := hh; unfold leT at h1; unfold ltT; omega
def LasAt (w : World) (bm : Nat) (l : List It) (x : Value) (wr : World) : Prop := ∃ i : Nat, i ≤ l.length ∧ x = .int .i64 (i : Nat) ∧ TMap wr bm i (gT (l.take i)) ∧ Fr [] w wr
set_option maxRecDepth 100000 in
set_option maxHeartbeats 3200000 in
theorem last_any (l : List It) (v : Value) (w : World) (hl : l.length ≤ 1000) (hwf : ∀ x, x ∈ l → Wf x.k x.v) (h : Sq fT w v l) :
    Calls Try.prog 25 #[v] w fun e w' => (∃ u c, e = .returned u ∧ List.Pairwise ltT c ∧ (∀ x : It, x ∈ c ↔ gT l x.k x.v = some x) ∧ w'.ownsRow w.heap.size 26 3 u c.length (c.flatMap fT)) ∧ Fr [] w w' := by
  obtain ⟨av, cv, rfl, hcv, hmv, -⟩ := id h
  have hmm := @run_makeMap Try.prog
  have m0 := TMap.made w
  have HWF := Lib.hid hwf
  clear hwf
  go_enter Try.func25, Try.ntmps25
  go_wp2_with fail
  clear hmm
  have F0 := (Fr.refl [] w).alloc (.map #[] 0)
  generalize (World.alloc w (.map #[] 0)) = w1 at *
  have hbm : w.heap.size ≤ w.heap.size := Nat.le_refl _
  generalize hbm2 : w.heap.size = bm at m0 hbm ⊢
  have HBM := Lib.hid hbm2
  clear hbm2
  go_loopw [9] (LasAt w bm l) (fun x _ => l.length - (match x with | .int _ z => z.toNat | _ => 0))
  case atStart => exact ⟨0, by omega, rfl, m0, F0⟩
  case round =>
    obtain ⟨i, hi, rfl, hG, F⟩ := hrel
    by_cases hlt : i < l.length
    · obtain ⟨x, hx⟩ : ∃ x, l[i]? = some x := ⟨l[i], List.getElem?_eq_getElem hlt⟩
      have hltz : (i : Int) < (l.length : Int) := by omega
      have HST := Lib.hid (gT_step hx)
      have hkw := HWF.out x (List.mem_of_getElem? hx)
      obtain ⟨gs, os, rfl, x0, x1, x2⟩ := it_cells (h.up F) hx
      have E7 := (Fr.refl [] wr).alloc (.cells #[.int .i64 x.k, .int .i64 x.v, .int .i64 x.d] 26)
      obtain ⟨w8, r8, G8, F8⟩ := TMap.put (hG.up E7) (by unfold maxLen; omega) x hkw
      have E8 := Lib.hid ((F.trans E7).own F8 (by simp; have := HBM.out; omega))
      have HG := Lib.hid G8
      unfold sv itW at r8
      clear hx hG F h E7 G8 F8 hkw
      go_wp2_with fail
      exact ⟨⟨i + 1, by omega, by simp, by rw [← HST.out]; exact HG.out, E8.out⟩, by simp; omega⟩
    · have hltz : ¬ (i : Int) < (l.length : Int) := by omega
      have hie : l.length ≤ i := by omega
      rw [List.take_of_length_le hie] at hG
      have hil : i ≤ 1000 := by omega
      have E7 := (Fr.refl [] wr).alloc (.cells #[.map (some bm)] 60)
      have hmb := (cell_of_box_a (Go.heap_alloc_new wr (.cells #[.map (some bm)] 60))).1
      have hf := feedsM 3 (by omega) wr.heap.size bm i (gT l) _ hmb (hG.up E7)
      have hlen : ∀ ss : List It, ((∀ x, x ∈ ss ↔ gT l x.k x.v = some x) ∧ ss.Pairwise fun a b => ¬ (a.k = b.k ∧ a.v = b.v)) → ss.length ≤ 1000 := by
        rintro ss ⟨h1, h2⟩
        have hnd : ss.Nodup := h2.imp fun {a b} hh e => hh (by rw [e]; exact ⟨rfl, rfl⟩)
        exact Nat.le_trans (len_le ss l hnd (fun x hx => (List.mem_filter.1 (List.mem_of_getLast? ((h1 x).1 hx))).1)) hl
      have H := sfunc_any _ _ (enters_of Try.func48 (by kernel_rfl) rfl) _ _ hil _ hf hlen
      have HF := Lib.hid (F.trans E7)
      clear hf hlen hmb hG F h E7
      go_wp2_with fail
      refine (valuesM_any bm wr).mono ?_; rintro e _ ⟨rfl, rfl⟩
      go_wp2_with fail
      refine H.mono ?_; rintro e w9 ⟨u, ss, c, rfl, ⟨hs1, hs2⟩, hp, hc, hr, F9⟩
      have F10 := HF.out.trans F9
      have hr2 : w9.ownsRow w.heap.size 26 3 u c.length (c.flatMap fT) := by
        refine ⟨hr.1, hr.2.imp id ?_⟩
        rintro ⟨g, cap, cur, e1, e2, e3⟩
        have := HF.out.size
        exact ⟨g, cap, cur, e1, by simp at e2 this; omega, e3⟩
      have HC := Lib.hid (show List.Pairwise ltT c ∧ ∀ x, x ∈ c ↔ gT l x.k x.v = some x from ⟨lt_of_apart hc (hp.symm.pairwise hs2 (fun {a b} hh e => hh ⟨e.1.symm, e.2.symm⟩)), fun x => by rw [hp.mem_iff]; exact hs1 x⟩)
      clear hr F9 H hs1 hs2 hp hc
      go_wp2_with fail
      go_ret
      exact ⟨⟨u, c, rfl, HC.out.1, HC.out.2, hr2⟩, F10⟩
set_option maxRecDepth 100000 in
set_option maxHeartbeats 1600000 in
theorem greatest_any (x : It) (bs : List It) (v : Value) (w : World) (hl : bs.length ≤ 1000) (h : Sq fT w v bs) :
    Calls Try.prog 26 #[.agg #[.int .i64 x.k, .int .i64 x.v, .int .i64 x.d], v] w fun e w' => e = .returned (.bool (bs.head?.all fun y => y.k != x.k)) ∧ Fr [] w w' := by
  obtain ⟨av, cv, rfl, hcv, hmv, -⟩ := id h
  have F0 := (Fr.refl [] w).alloc (.cells #[.int .i64 x.k, .int .i64 x.v, .int .i64 x.d] 26)
  obtain ⟨q0, q1, q2⟩ := cells3 (Go.heap_alloc_new w (.cells #[.int .i64 x.k, .int .i64 x.v, .int .i64 x.d] 26))
  cases bs with
  | nil =>
    clear h
    go_enter Try.func26, Try.ntmps26
    go_wp2_with fail
    generalize (w.alloc (.cells #[.int .i64 x.k, .int .i64 x.v, .int .i64 x.d] 26)) = w1 at *
    refine wp_region_in (by kernel_rfl) (by kernel_rfl) ?_
    repeat (go_big_quiet_step (fail))
    refine wpQuiet_nil ?_
    intro w2 F2
    go_wp2_with fail
    go_ret
    exact ⟨rfl, F0.trans F2⟩
  | cons y r =>
    obtain ⟨gs, os, rfl, y0, y1, y2⟩ := it_cells (h.up F0) (i := 0) (x := y) rfl
    have hlz : (((y :: r).length : Int) == 0) = false := by rw [List.length_cons]; simp only [beq_eq_false_iff_ne, ne_eq]; omega
    have hlz2 : (0 : Int) < ((y :: r).length : Int) := by rw [List.length_cons]; omega
    generalize hln : (y :: r).length = ln at *
    clear h
    simp only [Nat.zero_mul, Nat.add_zero] at y0 y1 y2
    go_enter Try.func26, Try.ntmps26
    go_wp2_with fail
    generalize (w.alloc (.cells #[.int .i64 x.k, .int .i64 x.v, .int .i64 x.d] 26)) = w1 at *
    refine wp_region_in (by kernel_rfl) (by kernel_rfl) ?_
    have k0 := In.cell y0
    have k1 := In.cell q0
    repeat (go_big_quiet_step (fail))
    refine wpQuiet_nil ?_
    intro w2 F2
    clear k0 k1
    go_wp2_with fail
    go_ret
    exact ⟨rfl, F0.trans F2⟩
end Go.Proofs.Yteahponbknljlaa.Kp
