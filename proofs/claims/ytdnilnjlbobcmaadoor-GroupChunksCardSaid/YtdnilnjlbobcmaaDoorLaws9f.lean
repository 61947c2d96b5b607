/- Layer 9's laws: GroupChunks. -/
import Derived.Test.YtdnilnjlbobcmaaDoorLaws9
import Derived.Test.YtdnilnjlbobcmaaDoorBd
namespace Go.Proofs.YtdnilnjlbobcmaaDoor.Gp
open Go.RowKit Go.Proofs.YtdnilnjlbobcmaaDoor.Ar Go.Proofs.YtdnilnjlbobcmaaDoor.Mx Go.Proofs.YtdnilnjlbobcmaaDoor.Kp Go.Proofs.YtdnilnjlbobcmaaDoor.Vw
set_option linter.unusedVariables false
set_option linter.unusedSimpArgs false
theorem ces_app {cap : Nat} {g : List It} (h : g.length ≤ cap) : cesOf cap g = g.map (fun x => ceO (some x)) ++ List.replicate (cap - g.length) ⟨0, 0, 0⟩ := by
  apply List.ext_getElem?
  intro j
  by_cases h1 : j < g.length
  · rw [ces_at (by omega), List.getElem?_append_left (by simpa using h1), List.getElem?_map, List.getElem?_eq_getElem h1]; rfl
  · by_cases h2 : j < cap
    · rw [ces_at h2, List.getElem?_eq_none (by omega), List.getElem?_append_right (by simp; omega), List.getElem?_replicate, if_pos (by simp; omega)]; rfl
    · rw [List.getElem?_eq_none (by rw [ces_len]; omega), List.getElem?_eq_none (by simp; omega)]
theorem item_ce {x : It} (h0 : 0 ≤ x.v) (h1 : x.v ≤ 1048576) : itemC (ceO (some x)) = some x := by
  have hs : stateW x.v = x.v + 3 := by unfold stateW; rw [hd_in (by omega) (by omega)]
  have hv : verV (x.v + 3) = x.v := by unfold verV; rw [if_neg (by omega), show x.v + 3 - 3 = x.v by omega, w64 (by omega) (by omega)]
  unfold itemC ceO
  simp only [hs]
  rw [if_pos (by omega), hv]
theorem items_ces {cap : Nat} {g : List It} (h : g.length ≤ cap) (hv : ∀ x, x ∈ g → 0 ≤ x.v ∧ x.v ≤ 1048576) : itemsC (cesOf cap g) = g := by
  rw [ces_app h]
  unfold itemsC
  rw [List.filterMap_append, List.filterMap_map]
  have h2 : (List.replicate (cap - g.length) (⟨0, 0, 0⟩ : Ce)).filterMap itemC = [] := by
    rw [List.filterMap_eq_nil_iff]
    intro c hc
    rw [(List.mem_replicate.1 hc).2]; rfl
  rw [h2, List.append_nil]
  clear h h2
  induction g with
  | nil => rfl
  | cons x r ih =>
    rw [List.filterMap_cons]
    have := item_ce (hv x (by simp)).1 (hv x (by simp)).2
    simp only [Function.comp, this]
    rw [ih (fun y hy => hv y (by simp [hy]))]
theorem at_nextW {a : Int} (h0 : 0 ≤ a) (h1 : a ≤ 1073741824) : atW (nextW a false) = a ∧ markW (nextW a false) = false := by
  unfold nextW atW markW
  rw [hd_in h0 h1]
  simp
/-- What the walk needs of chunk number i. -/
theorem ck_at {G : List (List It)} {at_ af : Int} (h0 : 0 ≤ at_) (h1 : at_ < 65536) (haf : 0 ≤ af ∧ af < 65536) (hl : G.length ≤ 100) (hf : ∀ g, g ∈ G → g.length ≤ 16) :
    (chunksT ⟨1, 16, 400, 1000⟩ at_ af 0 G).length = G.length ∧ ∀ (i : Nat) (g : List It), G[i]? = some g → ∃ m NX, (chunksT ⟨1, 16, 400, 1000⟩ at_ af 0 G)[i]? = some ⟨at_ + (i : Int) * 55, m, (g.length : Int), NX, g⟩ ∧ markW NX = false ∧ atW NX = if i + 1 < G.length then at_ + ((i : Int) + 1) * 55 else af := by
  have hall : (G.all fun g => decide ((g.length : Int) ≤ (16 : Int))) = true := by
    rw [List.all_eq_true]; intro g hg; have := hf g hg; exact decide_eq_true (by omega)
  have hT : chunksT ⟨1, 16, 400, 1000⟩ at_ af 0 G = chunksF ⟨1, 16, 400, 1000⟩ at_ af G (minsT 0 G) := by unfold chunksT; rw [if_pos hall]
  rw [hT]
  refine ⟨chunksF_length _ _ _ _ _, fun i g hg => ?_⟩
  have hi := (List.getElem?_eq_some_iff.1 hg).1
  obtain ⟨m, hm⟩ : ∃ m, (minsT 0 G)[i]? = some m := ⟨_, minsT_at 0 hg⟩
  have hsz : sizeP ⟨1, 16, 400, 1000⟩ = 55 := rfl
  have hn := chunksF_at (c := ⟨1, 16, 400, 1000⟩) af (by rw [hsz]; omega) G at_ (minsT 0 G) i g m h0 (by rw [hsz]; omega) hg hm
  rw [hsz] at hn
  rw [hn]
  refine ⟨m, _, by rw [Int.mul_comm 55 (i : Int)], ?_, ?_⟩
  · by_cases h : i + 1 = G.length
    · rw [if_pos h]; exact (at_nextW haf.1 (by omega)).2
    · rw [if_neg h]; exact (at_nextW (by omega) (by omega)).2
  · by_cases h : i + 1 = G.length
    · rw [if_pos h, if_neg (by omega)]; exact (at_nextW haf.1 (by omega)).1
    · rw [if_neg h, if_pos (by omega), Int.mul_comm 55]; exact (at_nextW (by omega) (by omega)).1
def VerAt (w : World) (l : List It) (x : Value) (wr : World) : Prop := ∃ i : Nat, i ≤ l.length ∧ x = .int .i64 (i : Nat) ∧ (∀ y, y ∈ l.take i → 0 ≤ y.v ∧ y.v ≤ 1048576) ∧ Fr [] w wr
def ChkAt (w : World) (G : List (List It)) (u x : Value) (wr : World) : Prop := ∃ i : Nat, i ≤ G.length ∧ x = .int .i64 (i : Nat) ∧ wr.ownsRow w.heap.size 43 3 u (G.take i).flatten.length ((G.take i).flatten.flatMap fT) ∧ Fr [] w wr
set_option maxRecDepth 100000 in
set_option maxHeartbeats 12800000 in
theorem gchunks_true (l : List It) (af at_ : Int) (v : Value) (W : World) (t : Word.Tab W) (hwf : ∀ x, x ∈ l → Wf x.k x.v) (haf : 0 ≤ af ∧ af < 65536) (hat : 0 ≤ at_ ∧ at_ < 65536) (h : Sq fT W v l) :
    Calls Tryd.prog 6 #[v, .int .u16 af, .int .u16 at_] W fun e w' => e = .returned (.bool true) ∧ Fr [] W w' := by
  obtain ⟨al, cl, rfl, hcl, hml, -⟩ := id h
  have HL := Lib.hid h
  clear h
  go_enter Tryd.func6, Tryd.ntmps6
  go_wp2_with fail
  refine (known9_any _ t).mono ?_
  rintro e w0 ⟨rfl, F0⟩
  have t0 := tab_up t F0
  clear t
  by_cases h12 : 12 < l.length
  · have h12z : (12 : Int) < (l.length : Int) := by omega
    go_wp2_with fail
    go_ret
    exact ⟨rfl, F0⟩
  have h12z : ¬ (12 : Int) < (l.length : Int) := by omega
  have hll : l.length ≤ 1000 := by omega
  go_wp2_with fail
  go_loopw [7] (VerAt w0 l) (fun x _ => l.length - (intOf x).toNat)
  case atStart => exact ⟨0, by omega, rfl, by simp, Fr.refl _ _⟩
  case round =>
    obtain ⟨i, hi, rfl, hlow, F⟩ := hrel
    by_cases hlt : i < l.length
    · have HI2 := Lib.hid (show i + 1 ≤ l.length ∧ l.length - (i + 1) < l.length - i by omega)
      have hltz : (i : Int) < (l.length : Int) := by omega
      have hi0 : (0 : Int) ≤ (i : Int) := by omega
      obtain ⟨x, hx⟩ : ∃ x, l[i]? = some x := ⟨l[i], List.getElem?_eq_getElem _⟩
      obtain ⟨gl, ol, rfl, x0, x1, x2⟩ := it_cells (HL.out.up (F0.trans F)) hx
      have HF := Lib.hid (F0.trans F)
      have HF2 := Lib.hid F
      clear F
      by_cases hk : x.v < 0
      · clear hlow hx
        go_wp2_with fail
        go_ret
        exact ⟨rfl, HF.out⟩
      · by_cases hk2 : 1048576 < x.v
        · clear hlow hx
          go_wp2_with fail
          go_ret
          exact ⟨rfl, HF.out⟩
        · have HLW := Lib.hid (show ∀ y, y ∈ l.take (i + 1) → 0 ≤ y.v ∧ y.v ≤ 1048576 by
            rw [List.take_add_one, hx]
            intro y hy
            rcases List.mem_append.1 hy with hy | hy
            · exact hlow y hy
            · simp at hy; subst hy; omega)
          clear hlow hx
          go_wp2_with fail
          go_roundw
          case rel => exact ⟨i + 1, HI2.out.1, by simp, HLW.out, HF2.out⟩
          case measure => exact meas rfl HI2.out.2
    · have hge : ¬ (i : Int) < (l.length : Int) := by omega
      rw [List.take_of_length_le (by omega)] at hlow
      have HLW := Lib.hid (show ∀ y, y ∈ sortT l → 0 ≤ y.v ∧ y.v ≤ 1048576 from fun y hy => hlow y (mem_sortT.1 hy))
      have HW := Lib.hid (show ∀ y, y ∈ sortT l → (Lit.int .i64 y.k).wf = true from fun y hy => (hwf y (mem_sortT.1 hy)).1)
      have HSR := Lib.hid (sortT_srt l)
      have hsl := sortT_length l
      have HF := Lib.hid (F0.trans F)
      have tr := tab_up t0 F
      have HSO := Lib.hid (fun (W' : World) (F' : Fr [] wr W') => sort_any l _ W' hll (HL.out.up (HF.out.trans F')))
      generalize sortT l = s at *
      have hs12 : s.length ≤ 12 := by omega
      clear hlow hwf F hsl
      go_wp2_with fail
      refine (Pl.conf_any 1 16 400 wr).mono ?_
      rintro e w1 ⟨rfl, F1⟩
      have FA := F1.alloc (.cells #[.int .i64 1, .int .i64 16, .int .i64 400, .int .i64 1000] 24)
      have oA := Ob.new w1 24 #[.int .i64 1, .int .i64 16, .int .i64 400, .int .i64 1000]
      have HA := Lib.hid (And.intro FA oA)
      have hS2 := HSO.out _ FA
      clear FA oA F1
      go_wp2_with fail
      generalize (w1.alloc (.cells #[.int .i64 1, .int .i64 16, .int .i64 400, .int .i64 1000] 24)) = w2 at *
      generalize w1.heap.size = pc at *
      refine hS2.mono ?_
      rintro e w3 ⟨⟨u3, rfl, r3⟩, F3⟩
      have S3 := Sq.own (f := fT) r3
      obtain ⟨a3, c3, rfl, hc3, hm3, -⟩ := id S3
      have HS3 := Lib.hid (And.intro S3 (And.intro (HF.out.trans (HA.out.1.trans F3)) (And.intro (HA.out.2.up F3) (HA.out.1.trans F3))))
      have HSP := Lib.hid (split9_any s 16 _ w3 (by omega) HSR.out HW.out S3)
      have HLE := Lib.hid (split_len 16 HSR.out)
      have HPO := Lib.hid (split_pos 16 HSR.out)
      have HFL := Lib.hid (split_flat 16 HSR.out)
      generalize splitT s 16 = G at *
      have hgl : G.length ≤ 100 := by have := HLE.out; omega
      clear r3 F3 hS2 S3 HSO
      go_wp2_with fail
      refine HSP.out.mono ?_
      rintro e w4 ⟨⟨u4, ss, rfl, hsl2, r4, G4⟩, F4⟩
      have S4 := Sq.own (f := fS) r4
      obtain ⟨a4, c4, rfl, hc4, hm4, -⟩ := id S4
      rw [hsl2] at hc4 S4 ⊢
      have HG := Lib.hid (And.intro S4 (And.intro G4.gs (And.intro (HS3.out.2.1.trans F4) (And.intro (HS3.out.1.up F4) (HS3.out.2.2.1.up F4)))))
      have hfl2 : G.flatten.length ≤ 1000 := by rw [HFL.out]; omega
      have HC := Lib.hid (chunks9_any ⟨1, 16, 400, 1000⟩ 16 at_ af 0 G ss _ w4 (tab_up tr (HS3.out.2.2.2.trans F4)) rfl (by decide) (by omega) (by omega) (by omega) hfl2 S4 G4.gs)
      clear r4 F4 S4 G4 HSP hsl2
      obtain ⟨d0, d1, d2, d3⟩ := Pl.cells4 HG.out.2.2.2.2
      have hgf : ∀ g, g ∈ G → g.length ≤ 16 := fun g hg => by
        have := (List.sublist_flatten_of_mem hg).length_le; rw [HFL.out] at this; omega
      have HCK := Lib.hid (ck_at hat.1 hat.2 haf hgl hgf)
      have HGF := Lib.hid hgf
      have HGV := Lib.hid (show ∀ g, g ∈ G → ∀ x, x ∈ g → 0 ≤ x.v ∧ x.v ≤ 1048576 from fun g hg x hx => HLW.out x (by rw [← HFL.out]; exact List.mem_flatten.2 ⟨g, hg, hx⟩))
      generalize chunksT ⟨1, 16, 400, 1000⟩ at_ af 0 G = CT at *
      clear hgf
      go_wp2_with fail
      refine HC.out.mono ?_
      rintro e w5 ⟨⟨r5, xs, rfl, X5, Y5⟩, F5⟩
      obtain ⟨a5, c5, rfl, hc5, hm5, -⟩ := id X5
      have hxl : xs.length = G.length := Y5.1.trans HCK.out.1
      rw [hxl] at hc5 X5 ⊢
      have HX := Lib.hid (And.intro X5 (And.intro Y5 (And.intro (HG.out.2.2.1.trans F5) (And.intro (HG.out.1.up F5) (And.intro (HG.out.2.1.up F5) (And.intro (HG.out.2.2.2.1.up F5) (HG.out.2.2.2.2.up F5)))))))
      have HXL := Lib.hid hxl
      clear X5 Y5 F5 HC hxl d0 d1 d2 d3
      go_wp2_with fail
      go_loopw [12, 13] (ChkAt w5 G) (fun _ x _ => G.length - (intOf x).toNat)
      case atStart => exact ⟨0, by omega, rfl, ⟨rfl, .inl ⟨rfl, rfl⟩⟩, Fr.refl _ _⟩
      case round =>
        obtain ⟨j, hj, rfl, hr, F⟩ := hrel
        by_cases hjl : j < G.length
        · have HJ2 := Lib.hid (show j + 1 ≤ G.length ∧ G.length - (j + 1) < G.length - j by omega)
          have hjlz : (j : Int) < (G.length : Int) := by omega
          have hj0 : (0 : Int) ≤ (j : Int) := by omega
          obtain ⟨g, hg⟩ : ∃ g, G[j]? = some g := ⟨G[j], List.getElem?_eq_getElem _⟩
          obtain ⟨x, hx⟩ : ∃ x, xs[j]? = some x := ⟨xs[j]'(by have := HXL.out; omega), List.getElem?_eq_getElem _⟩
          obtain ⟨m, NX, hn, hmk, hatn⟩ := HCK.out.2 j g hg
          obtain ⟨e1, s1⟩ := HX.out.2.1.2 j x _ hx hn
          obtain ⟨gx, ox, rfl, x0, x1, x2, x3, x4, x5, x6, x7, x8⟩ := ch_at (HX.out.1.up F) hx
          rw [e1] at x0 x1 x2 x3 x4 x5 x6 x7
          unfold hdOf at x0 x1 x2 x3 x4 x5 x6 x7
          obtain ⟨gb, ob, s', rfl, -, -, y0, -⟩ := sg_at (HX.out.2.2.2.1.up F) (HX.out.2.2.2.2.1.up F) hg
          obtain ⟨d0, d1, d2, d3⟩ := Pl.cells4 (HX.out.2.2.2.2.2.2.up F)
          obtain ⟨ca, cc, es, -⟩ := id s1
          rw [ces_len] at es
          rw [es] at x8 s1
          have HSQ := Lib.hid (s1.up F)
          have HIT := Lib.hid (items_ces (HGF.out g (List.mem_of_getElem? hg)) (HGV.out g (List.mem_of_getElem? hg)))
          have HFT := Lib.hid (show (G.take (j + 1)).flatten = (G.take j).flatten ++ g from flat_step hg)
          have HTL := Lib.hid (show (G.take j).flatten.length + g.length ≤ 40 by
            have h1 := flat_take_le G (j + 1)
            rw [HFT.out, List.length_append, HFL.out] at h1
            omega)
          have HR := Lib.hid (And.intro hr F)
          have HXJ := Lib.hid (And.intro hx (And.intro hg hn))
          by_cases hnx : j + 1 < G.length
          · have hnxz : (j : Int) + 1 < (G.length : Int) := by omega
            have hj1 : (0 : Int) ≤ (j : Int) + 1 := by omega
            rw [if_pos hnx] at hatn
            obtain ⟨g2, hg2⟩ : ∃ g, G[j + 1]? = some g := ⟨G[j + 1], List.getElem?_eq_getElem _⟩
            obtain ⟨z, hz⟩ : ∃ x, xs[j + 1]? = some x := ⟨xs[j + 1]'(by have := HXL.out; omega), List.getElem?_eq_getElem _⟩
            obtain ⟨m2, NX2, hn2, -, -⟩ := HCK.out.2 (j + 1) g2 hg2
            obtain ⟨e2, -⟩ := HX.out.2.1.2 (j + 1) z _ hz hn2
            obtain ⟨gx', ox', ex, z0, -⟩ := ch_at (HX.out.1.up F) hz
            simp only [Option.some.injEq, Addr.mk.injEq] at ex
            obtain ⟨rfl, rfl, -⟩ := ex
            rw [e2] at z0
            unfold hdOf at z0
            simp only at z0
            rw [show (((j + 1 : Nat) : Int)) = (j : Int) + 1 by omega] at z0
            clear hr F hx hn hg hz hn2 hg2 e1 e2 es s1 hnx
            go_wp2_with fail
            have k0 := In.cell x0
            have k2 := In.cell x2
            have k3 := In.cell x3
            have k4 := In.cell x4
            have k5 := In.cell x5
            have k6 := In.cell x6
            have k7 := In.cell x7
            have k8 := In.cell x8
            have kg := In.cell y0
            have kc0 := In.cell d0
            have kc1 := In.cell d1
            have kc2 := In.cell d2
            have kc3 := In.cell d3
            refine wp_region_in (by kernel_rfl) (by kernel_rfl) ?_
            repeat (go_big_quiet_step ((first | (go_at_call 22; exact Calls.in_ (Ref.size_any _ _ _ _ (by omega) (by omega) _)) | (go_at_call 23; exact Calls.in_same (at_any _ _)) | (go_at_call 24; exact Calls.in_same (marked_any _ _)))))
            refine wpQuiet_nil ?_
            intro w6 F6
            clear k0 k2 k3 k4 k5 k6 k7 k8 kg kc0 kc1 kc2 kc3
            replace x0 := F6.cell x0 (by simp)
            replace x2 := F6.cell x2 (by simp)
            replace x3 := F6.cell x3 (by simp)
            replace x4 := F6.cell x4 (by simp)
            replace x5 := F6.cell x5 (by simp)
            replace x6 := F6.cell x6 (by simp)
            replace x7 := F6.cell x7 (by simp)
            replace x8 := F6.cell x8 (by simp)
            replace x1 := F6.cell x1 (by simp)
            have HF6 := Lib.hid (And.intro (HR.out.2.trans F6) (And.intro (row_keeps HR.out.1 F6) (HSQ.out.up F6)))
            clear F6 y0 d0 d1 d2 d3
            go_wp2_with fail
            refine (ritems_any ⟨at_ + (j : Int) * 55, m, (g.length : Int), NX, 0, 0, 0, 0⟩ (cesOf 16 g) _ w6 (by rw [ces_len]; omega) HF6.out.2.2).mono ?_
            rintro e w7 ⟨⟨u7, rfl, r7⟩, F7⟩
            rw [HIT.out] at r7
            have S7 := Sq.own (f := fT) r7
            obtain ⟨a7, c7, rfl, hc7, hm7, -⟩ := id S7
            have HF7 := Lib.hid (And.intro (HF6.out.1.trans F7) (row_keeps HF6.out.2.1 F7))
            clear r7 F7 x0 x1 x2 x3 x4 x5 x6 x7 x8
            go_wp2_with (at_builtin; refine wpList_appSq fT_lays rfl _ _ 22 rfl Tryd.underlying22 itI rfl (B := w5.heap.size) u12 (G.take j).flatten rfl HF7.out.2 _ g rfl S7 (by have := HTL.out; omega) (by decide) HF7.out.1.size ?_; intro a9 c9 w9 r9 f9; rw [← HFT.out] at r9 ⊢; generalize hT : (G.take (j + 1)).flatten = T at r9 ⊢)
            have HT := Lib.hid hT
            have HR3 := Lib.hid (And.intro r9 (HF7.out.1.own f9 (row_base HF7.out.2)))
            clear r9 f9 hT S7
            go_wp2_with fail
            go_roundw
            case rel => exact ⟨j + 1, HJ2.out.1, by simp, by rw [HT.out]; exact HR3.out.1, HR3.out.2⟩
            case measure => exact meas rfl HJ2.out.2
          · have hnxz : ¬ (j : Int) + 1 < (G.length : Int) := by omega
            rw [if_neg hnx] at hatn
            clear hr F hx hn hg e1 es s1 hnx
            go_wp2_with fail
            have k0 := In.cell x0
            have k2 := In.cell x2
            have k3 := In.cell x3
            have k4 := In.cell x4
            have k5 := In.cell x5
            have k6 := In.cell x6
            have k7 := In.cell x7
            have k8 := In.cell x8
            have kg := In.cell y0
            have kc0 := In.cell d0
            have kc1 := In.cell d1
            have kc2 := In.cell d2
            have kc3 := In.cell d3
            refine wp_region_in (by kernel_rfl) (by kernel_rfl) ?_
            repeat (go_big_quiet_step ((first | (go_at_call 22; exact Calls.in_ (Ref.size_any _ _ _ _ (by omega) (by omega) _)) | (go_at_call 23; exact Calls.in_same (at_any _ _)) | (go_at_call 24; exact Calls.in_same (marked_any _ _)))))
            refine wpQuiet_nil ?_
            intro w6 F6
            clear k0 k2 k3 k4 k5 k6 k7 k8 kg kc0 kc1 kc2 kc3
            replace x0 := F6.cell x0 (by simp)
            replace x2 := F6.cell x2 (by simp)
            replace x3 := F6.cell x3 (by simp)
            replace x4 := F6.cell x4 (by simp)
            replace x5 := F6.cell x5 (by simp)
            replace x6 := F6.cell x6 (by simp)
            replace x7 := F6.cell x7 (by simp)
            replace x8 := F6.cell x8 (by simp)
            replace x1 := F6.cell x1 (by simp)
            have HF6 := Lib.hid (And.intro (HR.out.2.trans F6) (And.intro (row_keeps HR.out.1 F6) (HSQ.out.up F6)))
            clear F6 y0 d0 d1 d2 d3
            go_wp2_with fail
            refine (ritems_any ⟨at_ + (j : Int) * 55, m, (g.length : Int), NX, 0, 0, 0, 0⟩ (cesOf 16 g) _ w6 (by rw [ces_len]; omega) HF6.out.2.2).mono ?_
            rintro e w7 ⟨⟨u7, rfl, r7⟩, F7⟩
            rw [HIT.out] at r7
            have S7 := Sq.own (f := fT) r7
            obtain ⟨a7, c7, rfl, hc7, hm7, -⟩ := id S7
            have HF7 := Lib.hid (And.intro (HF6.out.1.trans F7) (row_keeps HF6.out.2.1 F7))
            clear r7 F7 x0 x1 x2 x3 x4 x5 x6 x7 x8
            go_wp2_with (at_builtin; refine wpList_appSq fT_lays rfl _ _ 22 rfl Tryd.underlying22 itI rfl (B := w5.heap.size) u12 (G.take j).flatten rfl HF7.out.2 _ g rfl S7 (by have := HTL.out; omega) (by decide) HF7.out.1.size ?_; intro a9 c9 w9 r9 f9; rw [← HFT.out] at r9 ⊢; generalize hT : (G.take (j + 1)).flatten = T at r9 ⊢)
            have HT := Lib.hid hT
            have HR3 := Lib.hid (And.intro r9 (HF7.out.1.own f9 (row_base HF7.out.2)))
            clear r9 f9 hT S7
            go_wp2_with fail
            go_roundw
            case rel => exact ⟨j + 1, HJ2.out.1, by simp, by rw [HT.out]; exact HR3.out.1, HR3.out.2⟩
            case measure => exact meas rfl HJ2.out.2
        · obtain rfl : j = G.length := by omega
          rw [List.take_length] at hr
          have S8 := Sq.own (f := fT) hr
          obtain ⟨a8, c8, rfl, hc8, hm8, -⟩ := id S8
          have hE := sameItems_any G.flatten s _ _ wr (by omega) (by omega) S8 (HX.out.2.2.2.2.2.1.up F)
          rw [show decide (G.flatten = s) = true from decide_eq_true HFL.out] at hE
          have HE := Lib.hid hE
          have HF9 := Lib.hid (HX.out.2.2.1.trans F)
          generalize hT : G.flatten = T at *
          generalize hn : T.length = n8 at *
          clear hr S8 F hT hn hE
          go_wp2_with fail
          refine HE.out.mono ?_
          rintro e w9 ⟨rfl, F9⟩
          go_wp2_with fail
          go_ret
          exact ⟨rfl, HF9.out.trans F9⟩
set_option maxRecDepth 100000 in
theorem gchunks_open {H : Type} {enc : TypeId × Value → H} {r : Reach} {b0 : Nat} {v : Value} {d : DataW H} {p : List MemPlace} (af at_ : Int) (W : World) (t : Word.Tab W) (hv : Value.okWide Tryd.prog W r b0 22 v) (h : DataW.Trod enc Tryd.prog W 0 (fun _ => true) true 22 v d p) (haf : 0 ≤ af ∧ af < 65536) (hat : 0 ≤ at_ ∧ at_ < 65536) :
    Calls Tryd.prog 6 #[v, .int .u16 af, .int .u16 at_] W fun e w' => e = .returned (.bool true) ∧ Fr [] W w' := by
  obtain ⟨l, hl, hw⟩ := open_items8 hv h
  exact gchunks_true l af at_ v W t (fun x hx => (hw x hx).1) haf hat hl
end Go.Proofs.YtdnilnjlbobcmaaDoor.Gp
