/- Texts that several proofs of this seat share, one behind the other: Kept, Grp, Kpure, Gpure, Gfold, SeqB, Keep, Mins, Split. -/
import Derived.Test.YtdnilnjlbobcmaaDoorBa
import Derived.Sort.LotA
import Derived.Sort.WalkA
import Derived.Lib.MinMax
/- Rows of ints; what is kept of items. -/

namespace Go.Proofs.YtdnilnjlbobcmaaDoor.Mx
open Go.RowKit Go.Proofs.YtdnilnjlbobcmaaDoor.Ar
set_option linter.unusedVariables false
set_option linter.unusedSimpArgs false
def fI (x : Int) : List Value := [.int .i64 x]
theorem fI_lays : Lays fI 1 := ⟨fun _ => rfl, fun x u hu => by rw [List.mem_singleton.1 hu]; rfl, by decide⟩
theorem intI : (Tryd.prog.info? 3).map (fun i => (i.zero, i.size, i.bytes)) = some (some (.int .i64 0), 1, 8) := by kernel_rfl
theorem int_cell {w : World} {a : Option Addr} {n cap i : Nat} {xs : List Int} {x : Int} (h : Sq fI w (.slice a n cap) xs) (hi : xs[i]? = some x) :
    ∃ g off, a = some ⟨g, off, none⟩ ∧ w.cell? ⟨g, off + i, none⟩ = some (.int .i64 x) := by
  obtain ⟨-, g, off, rfl, hc⟩ := Sq.cell fI_lays h hi
  exact ⟨g, off, rfl, by simpa using hc 0 _ rfl⟩
/-- What is kept of items in order. -/
def keepsB (x : It) (nx : Option It) (vs : List Int) : Bool :=
  nx.all (fun y => y.k != x.k) || vs.any fun v => decide (x.v ≤ v) && (nx.all (fun y => y.k != x.k) || nx.any fun y => decide (v < y.v))
def keepS (vs : List Int) : List It → List It
  | [] => []
  | x :: r => if keepsB x r.head? vs = true then x :: keepS vs r else keepS vs r
def keepT (l : List It) (vs : List Int) : List It := keepS vs (sortT l)
end Go.Proofs.YtdnilnjlbobcmaaDoor.Mx
/- Groups of items, their least keys: functions of lists alone. -/

namespace Go.Proofs.YtdnilnjlbobcmaaDoor.Mx
/-- Groups: out, the last one still open. -/
def splitF (half : Int) : Nat → List It → List (List It) → List It → List (List It)
  | 0, _, out, cur => out ++ [cur]
  | n + 1, l, out, cur =>
    match l with
    | [] => out ++ [cur]
    | x :: r =>
      let run := x :: r.takeWhile (fun y => y.k == x.k)
      if cur ≠ [] ∧ half < (cur.length : Int) + run.length then splitF half n (r.dropWhile (fun y => y.k == x.k)) (out ++ [cur]) run
      else splitF half n (r.dropWhile (fun y => y.k == x.k)) out (cur ++ run)
def halfOf (cells : Int) : Int := max 2 (min cells 16) / 2
def splitT (l : List It) (cells : Int) : List (List It) := splitF (halfOf cells) l.length l [] []
def minsT (least : Int) (gs : List (List It)) : List Int :=
  match gs with
  | [] => []
  | _ :: r => least :: r.map fun g => (g.head?.map It.k).getD 0
end Go.Proofs.YtdnilnjlbobcmaaDoor.Mx
/- Items in order, the latest, what is kept, keys, merging: functions of lists alone. -/

namespace Go.Proofs.YtdnilnjlbobcmaaDoor.Mx
open Go.Sort
set_option linter.unusedVariables false
set_option linter.unusedSimpArgs false
theorem keepS_cons (vs : List Int) (x : It) (r : List It) : keepS vs (x :: r) = if keepsB x r.head? vs = true then x :: keepS vs r else keepS vs r := rfl
def leT (x y : It) : Prop := x.k < y.k ∨ (x.k = y.k ∧ x.v ≤ y.v)
def ltT (x y : It) : Prop := x.k < y.k ∨ (x.k = y.k ∧ x.v < y.v)
def atS (k v : Int) (x : It) : Bool := (x.k == k) && (x.v == v)
theorem atS_iff {k v : Int} {x : It} : atS k v x = true ↔ x.k = k ∧ x.v = v := by simp [atS]
def Srt (l : List It) : Prop := l.Pairwise leT
theorem leT_trans {x y z : It} (h : leT x y) (g : leT y z) : leT x z := by unfold leT at *; omega
theorem leT_refl (x : It) : leT x x := by unfold leT; omega
theorem ltT_le {x y : It} (h : ltT x y) : leT x y := by unfold leT ltT at *; omega
theorem srt_cons {x : It} {l : List It} : Srt (x :: l) ↔ (∀ y ∈ l, leT x y) ∧ Srt l := List.pairwise_cons
theorem cls_mem {a b : List It} (h : ∀ k v, a.filter (atS k v) = b.filter (atS k v)) (x : It) : x ∈ a ↔ x ∈ b := by
  have e := h x.k x.v
  have p : atS x.k x.v x = true := atS_iff.2 ⟨rfl, rfl⟩
  constructor
  · intro hx
    have : x ∈ a.filter (atS x.k x.v) := List.mem_filter.2 ⟨hx, p⟩
    rw [e] at this; exact (List.mem_filter.1 this).1
  · intro hx
    have : x ∈ b.filter (atS x.k x.v) := List.mem_filter.2 ⟨hx, p⟩
    rw [← e] at this; exact (List.mem_filter.1 this).1
theorem srt_unique : ∀ (a b : List It), Srt a → Srt b → (∀ k v, a.filter (atS k v) = b.filter (atS k v)) → a = b
  | [], [], _, _, _ => rfl
  | [], y :: b, _, _, h => absurd ((cls_mem h y).2 (by simp)) (by simp)
  | x :: a, [], _, _, h => absurd ((cls_mem h x).1 (by simp)) (by simp)
  | x :: a, y :: b, ha, hb, h => by
    have hx := (cls_mem h x).1 (by simp)
    have hy := (cls_mem h y).2 (by simp)
    have h1 : leT y x := by
      rcases List.mem_cons.1 hx with e | e
      · rw [e]; exact leT_refl _
      · exact (srt_cons.1 hb).1 _ e
    have h2 : leT x y := by
      rcases List.mem_cons.1 hy with e | e
      · rw [e]; exact leT_refl _
      · exact (srt_cons.1 ha).1 _ e
    have hk : x.k = y.k ∧ x.v = y.v := by unfold leT at *; omega
    have e := h x.k x.v
    have px : atS x.k x.v x = true := atS_iff.2 ⟨rfl, rfl⟩
    have py : atS x.k x.v y = true := atS_iff.2 ⟨hk.1.symm, hk.2.symm⟩
    rw [List.filter_cons_of_pos px, List.filter_cons_of_pos py] at e
    obtain ⟨rfl, -⟩ := List.cons.inj e
    congr 1
    refine srt_unique a b (srt_cons.1 ha).2 (srt_cons.1 hb).2 fun k v => ?_
    have e := h k v
    by_cases p : atS k v x = true
    · rw [List.filter_cons_of_pos p, List.filter_cons_of_pos p] at e; exact (List.cons.inj e).2
    · rw [List.filter_cons_of_neg p, List.filter_cons_of_neg p] at e; exact e
theorem gtT_iff {x y : It} : gtT y x = true ↔ ltT x y := by
  unfold gtT ltT; simp only [Bool.or_eq_true, Bool.and_eq_true, decide_eq_true_eq, beq_iff_eq]; constructor <;> (intro h; omega)
theorem posT_spec (out : List It) (x : It) : ∀ n, n ≤ out.length → (∀ j (hj : j < out.length), posT out x n ≤ j → j < n → ltT x out[j]) ∧ (∀ (h : 0 < posT out x n) (hl : posT out x n - 1 < out.length), ¬ ltT x (out[posT out x n - 1]'hl)) := by
  intro n
  induction n with
  | zero => exact fun _ => ⟨fun j hj h1 h2 => absurd h2 (by omega), fun h => absurd h (by simp [posT])⟩
  | succ k ih =>
    intro hn
    have hk : k < out.length := by omega
    have he : out[k]? = some out[k] := List.getElem?_eq_getElem hk
    rw [posT_succ he]
    split
    · rename_i hg
      obtain ⟨h1, h2⟩ := ih (by omega)
      refine ⟨fun j hj a b => ?_, h2⟩
      by_cases e : j = k
      · subst e; exact gtT_iff.1 hg
      · exact h1 j hj a (by omega)
    · rename_i hg
      refine ⟨fun j hj a b => absurd b (by omega), fun h hl => ?_⟩
      intro hh
      exact hg (gtT_iff.2 (by simpa using hh))
theorem insT_parts (out : List It) (x : It) (h : Srt out) : ∃ A B, out = A ++ B ∧ insT out x = A ++ x :: B ∧ (∀ y ∈ A, leT y x) ∧ (∀ y ∈ B, ltT x y) := by
  refine ⟨out.take (posT out x out.length), out.drop (posT out x out.length), (List.take_append_drop _ _).symm, by unfold insT; simp, ?_, ?_⟩
  · intro y hy
    obtain ⟨h1, h2⟩ := posT_spec out x out.length (Nat.le_refl _)
    have hp := posT_le out x out.length
    obtain ⟨i, hi, rfl⟩ := List.getElem_of_mem hy
    have hi' := hi
    rw [List.length_take] at hi'
    rw [List.getElem_take]
    have hl : posT out x out.length - 1 < out.length := by omega
    have h3 := h2 (by omega) hl
    have h4 : leT out[i] out[posT out x out.length - 1] := by
      by_cases e : i = posT out x out.length - 1
      · simp only [← e]; exact leT_refl _
      · exact (List.pairwise_iff_getElem.1 h) _ _ (by omega) hl (by omega)
    generalize out[posT out x out.length - 1] = z at *
    generalize out[i] = y at *
    unfold leT ltT at *; omega
  · intro y hy
    obtain ⟨h1, h2⟩ := posT_spec out x out.length (Nat.le_refl _)
    obtain ⟨i, hi, rfl⟩ := List.getElem_of_mem hy
    rw [List.length_drop] at hi
    rw [List.getElem_drop]
    exact h1 _ (by omega) (by omega) (by omega)
theorem insT_srt {out : List It} (h : Srt out) (x : It) : Srt (insT out x) := by
  obtain ⟨A, B, e, e2, hA, hB⟩ := insT_parts out x h
  rw [e2]; rw [e] at h
  unfold Srt at *
  rw [List.pairwise_append] at *
  refine ⟨h.1, List.pairwise_cons.2 ⟨fun y hy => ltT_le (hB y hy), h.2.1⟩, fun a ha b hb => ?_⟩
  rcases List.mem_cons.1 hb with rfl | hb
  · exact hA a ha
  · exact h.2.2 a ha b hb
theorem insT_cls {out : List It} (h : Srt out) (x : It) (k v : Int) : (insT out x).filter (atS k v) = (out ++ [x]).filter (atS k v) := by
  obtain ⟨A, B, e, e2, hA, hB⟩ := insT_parts out x h
  rw [e2]; rw [e]
  by_cases p : atS k v x = true
  · have hB0 : B.filter (atS k v) = [] := by
      rw [List.filter_eq_nil_iff]
      intro y hy hp
      have := hB y hy
      have := atS_iff.1 hp
      have := atS_iff.1 p
      unfold ltT at *; omega
    simp [List.filter_append, List.filter_cons_of_pos p, hB0]
  · simp [List.filter_append, List.filter_cons_of_neg p]
theorem fold_srt (l : List It) : ∀ out, Srt out → Srt (l.foldl insT out) ∧ ∀ k v, (l.foldl insT out).filter (atS k v) = (out ++ l).filter (atS k v) := by
  induction l with
  | nil => intro out h; exact ⟨h, fun k v => by simp⟩
  | cons x l ih =>
    intro out h
    obtain ⟨h1, h2⟩ := ih _ (insT_srt h x)
    refine ⟨h1, fun k v => ?_⟩
    rw [List.foldl_cons, h2, List.filter_append, insT_cls h, ← List.filter_append]
    simp
theorem sortT_srt (l : List It) : Srt (sortT l) := (fold_srt l [] List.Pairwise.nil).1
theorem sortT_cls (l : List It) (k v : Int) : (sortT l).filter (atS k v) = l.filter (atS k v) := (fold_srt l [] List.Pairwise.nil).2 k v
theorem sort_eq {l a : List It} (h : Srt a) (hc : ∀ k v, a.filter (atS k v) = l.filter (atS k v)) : a = sortT l :=
  srt_unique _ _ h (sortT_srt l) fun k v => by rw [hc, sortT_cls]
theorem sortT_of {s : List It} (h : Srt s) : sortT s = s := (sort_eq h fun _ _ => rfl).symm
theorem mem_sortT {l : List It} {x : It} : x ∈ sortT l ↔ x ∈ l := cls_mem (sortT_cls l) x
/-- The latest of a key at a version. -/
def lat1 (k v : Int) (b : Option It) (x : It) : Option It := if x.k = k ∧ x.v ≤ v ∧ b.all (fun y => decide (y.v ≤ x.v)) = true then some x else b
def latT (l : List It) (k v : Int) : Option It := l.foldl (lat1 k v) none
def P8 (k v : Int) (x : It) : Bool := (x.k == k) && decide (x.v ≤ v)
theorem P8_iff {k v : Int} {x : It} : P8 k v x = true ↔ x.k = k ∧ x.v ≤ v := by simp [P8]
theorem lat1_eq {out : List It} (h : Srt out) (x : It) (k v : Int) : lat1 k v ((out.filter (P8 k v)).getLast?) x = ((insT out x).filter (P8 k v)).getLast? := by
  obtain ⟨A, B, e, e2, hA, hB⟩ := insT_parts out x h
  rw [e2, e]
  unfold lat1
  by_cases p : P8 k v x = true
  · have hp := P8_iff.1 p
    rw [List.filter_append, List.filter_append, List.filter_cons_of_pos p]
    by_cases hb : B.filter (P8 k v) = []
    · rw [hb, List.append_nil, List.getLast?_append]
      rw [if_pos]
      · rfl
      · refine ⟨hp.1, hp.2, ?_⟩
        cases hz : (A.filter (P8 k v)).getLast? with
        | none => rfl
        | some z =>
          have hm := List.mem_of_getLast? hz
          obtain ⟨hm1, hm2⟩ := List.mem_filter.1 hm
          have := hA z hm1
          have := P8_iff.1 hm2
          simp only [Option.all_some, decide_eq_true_eq]
          unfold leT at *; omega
    · obtain ⟨z, hz⟩ := Option.isSome_iff_exists.1 (show ((B.filter (P8 k v)).getLast?).isSome = true by rw [← Option.ne_none_iff_isSome, Ne, List.getLast?_eq_none_iff]; exact hb)
      have hm := List.mem_of_getLast? hz
      obtain ⟨hm1, hm2⟩ := List.mem_filter.1 hm
      have h1 := hB z hm1
      have h2 := P8_iff.1 hm2
      have e1 : (A.filter (P8 k v) ++ B.filter (P8 k v)).getLast? = some z := by rw [List.getLast?_append, hz]; rfl
      have e2 : (A.filter (P8 k v) ++ x :: B.filter (P8 k v)).getLast? = some z := by
        rw [List.getLast?_append, List.getLast?_cons, hz]; rfl
      rw [e1, e2, if_neg]
      rintro ⟨-, -, h3⟩
      simp only [Option.all_some, decide_eq_true_eq] at h3
      unfold ltT at *; omega
  · rw [if_neg (fun hh => p (P8_iff.2 ⟨hh.1, hh.2.1⟩)), List.filter_append, List.filter_append, List.filter_cons_of_neg p]
theorem latT_eq (l : List It) (k v : Int) : latT l k v = ((sortT l).filter (P8 k v)).getLast? := by
  suffices h : ∀ (l out : List It), Srt out → l.foldl (lat1 k v) ((out.filter (P8 k v)).getLast?) = ((l.foldl insT out).filter (P8 k v)).getLast? from h l [] List.Pairwise.nil
  intro l
  induction l with
  | nil => intro out h; rfl
  | cons x l ih => intro out h; rw [List.foldl_cons, lat1_eq h, ih _ (insT_srt h x), List.foldl_cons]
theorem latT_srt {s : List It} (h : Srt s) (k v : Int) : latT s k v = (s.filter (P8 k v)).getLast? := by rw [latT_eq, sortT_of h]
theorem keepS_sub (vs : List Int) : ∀ s, (keepS vs s).Sublist s
  | [] => List.Sublist.refl _
  | x :: r => by
    rw [keepS_cons]; split
    · exact (keepS_sub vs r).cons_cons x
    · exact (keepS_sub vs r).cons x
theorem sub_srt {a b : List It} (h : Srt b) (s : a.Sublist b) : Srt a := List.Pairwise.sublist s h
theorem keepT_srt (l : List It) (vs : List Int) : Srt (keepT l vs) := sub_srt (sortT_srt l) (keepS_sub vs _)
theorem keepsB_iff {x : It} {nx : Option It} {vs : List Int} : keepsB x nx vs = true ↔ (∀ y, nx = some y → y.k ≠ x.k) ∨ ∃ v ∈ vs, x.v ≤ v ∧ ∀ y, nx = some y → y.k ≠ x.k ∨ v < y.v := by
  unfold keepsB
  cases nx with
  | none => simp
  | some y =>
    simp only [Option.all_some, Option.any_some, Bool.or_eq_true, bne_iff_ne, List.any_eq_true, Bool.and_eq_true, decide_eq_true_eq, Option.some.injEq, forall_eq']
theorem keepS_lat {vs : List Int} {k v : Int} : ∀ {s : List It}, Srt s → (v ∈ vs ∨ ∀ x ∈ s, x.v ≤ v) → ((keepS vs s).filter (P8 k v)).getLast? = (s.filter (P8 k v)).getLast?
  | [], _, _ => rfl
  | x :: r, h, hv => by
    have ih := keepS_lat (k := k) (srt_cons.1 h).2 (hv.imp id (fun a y hy => a y (List.mem_cons_of_mem _ hy)))
    rw [keepS_cons]
    by_cases hk : keepsB x r.head? vs = true
    · rw [if_pos hk]
      by_cases p : P8 k v x = true
      · rw [List.filter_cons_of_pos p, List.filter_cons_of_pos p, List.getLast?_cons, List.getLast?_cons, ih]
      · rw [List.filter_cons_of_neg p, List.filter_cons_of_neg p, ih]
    · rw [if_neg hk, ih]
      by_cases p : P8 k v x = true
      · rw [List.filter_cons_of_pos p]
        rw [keepsB_iff] at hk
        cases r with
        | nil => exact absurd (Or.inl (by simp)) hk
        | cons y r =>
          have hpx := P8_iff.1 p
          have hyk : y.k = x.k := Classical.byContradiction fun c => hk (Or.inl (fun z hz => by cases hz; exact c))
          have hyv : y.v ≤ v := by
            rcases hv with hv | hv
            · refine Classical.byContradiction fun c => hk (Or.inr ⟨v, hv, hpx.2, fun z hz => ?_⟩)
              cases hz; right; omega
            · exact hv y (by simp)
          have py : P8 k v y = true := P8_iff.2 ⟨by omega, hyv⟩
          rw [List.filter_cons_of_pos py]
          simp [List.getLast?_cons]
      · rw [List.filter_cons_of_neg p]
/-- What is kept tells what all of it told. -/
theorem keep_lat (l : List It) {vs : List Int} {k v : Int} (hv : v ∈ vs ∨ ∀ x ∈ l, x.v ≤ v) : latT (keepT l vs) k v = latT l k v := by
  rw [latT_srt (keepT_srt l vs), latT_eq]
  exact keepS_lat (sortT_srt l) (hv.imp id (fun a x hx => a x (mem_sortT.1 hx)))
theorem keepT_length (l : List It) (vs : List Int) : (keepT l vs).length ≤ l.length := by
  have := (keepS_sub vs (sortT l)).length_le; rw [sortT_length] at this; exact this
theorem keepsB_sub {x : It} {r r' : List It} {vs : List Int} (h : Srt (x :: r)) (hs : r'.Sublist r) (hk : keepsB x r.head? vs = true) : keepsB x r'.head? vs = true := by
  rw [keepsB_iff] at *
  cases r with
  | nil => cases List.eq_nil_of_sublist_nil hs; exact hk
  | cons y r =>
    have hz : ∀ z, r'.head? = some z → leT y z := fun z hz => by
      have : z ∈ y :: r := hs.subset (List.mem_of_mem_head? hz)
      rcases List.mem_cons.1 this with rfl | hm
      · exact leT_refl _
      · exact (srt_cons.1 (srt_cons.1 h).2).1 z hm
    have hxy := (srt_cons.1 h).1 y (by simp)
    rcases hk with hk | ⟨v, hv, hxv, hk⟩
    · left; intro z hh
      have := hz z hh; have := hk y rfl
      unfold leT at *; omega
    · right; refine ⟨v, hv, hxv, fun z hh => ?_⟩
      have := hz z hh; have := hk y rfl
      unfold leT at *; omega
theorem keepS_again {vs : List Int} : ∀ {s : List It}, Srt s → keepS vs (keepS vs s) = keepS vs s
  | [], _ => rfl
  | x :: r, h => by
    have ih := keepS_again (vs := vs) (srt_cons.1 h).2
    rw [keepS_cons]
    by_cases hk : keepsB x r.head? vs = true
    · rw [if_pos hk, keepS_cons, if_pos (keepsB_sub h (keepS_sub vs r) hk), ih]
    · rw [if_neg hk, ih]
theorem keep_again (l : List It) (vs : List Int) : keepT (keepT l vs) vs = keepT l vs := by
  unfold keepT; rw [sortT_of (sub_srt (sortT_srt l) (keepS_sub vs _)), keepS_again (sortT_srt l)]
/-- Each of them is asked for. -/
def Asked (vs : List Int) : List It → Prop
  | [] => True
  | x :: r => keepsB x r.head? vs = true ∧ Asked vs r
theorem asked_keepS {vs : List Int} : ∀ {s : List It}, Srt s → Asked vs (keepS vs s)
  | [], _ => trivial
  | x :: r, h => by
    have ih := asked_keepS (vs := vs) (srt_cons.1 h).2
    rw [keepS_cons]
    by_cases hk : keepsB x r.head? vs = true
    · rw [if_pos hk]; exact ⟨keepsB_sub h (keepS_sub vs r) hk, ih⟩
    · rw [if_neg hk]; exact ih
theorem asked_keep (l : List It) (vs : List Int) : Asked vs (keepT l vs) := asked_keepS (sortT_srt l)
theorem asked_lt {vs : List Int} : ∀ {s : List It}, Srt s → Asked vs s → s.Pairwise ltT
  | [], _, _ => List.Pairwise.nil
  | [x], _, _ => by simp
  | x :: y :: r, h, ha => by
    have ih := asked_lt (srt_cons.1 h).2 ha.2
    have h1 : ltT x y := by
      have hxy := (srt_cons.1 h).1 y (by simp)
      rcases keepsB_iff.1 ha.1 with hk | ⟨v, hv, hxv, hk⟩
      · have := hk y rfl; unfold leT ltT at *; omega
      · have := hk y rfl; unfold leT ltT at *; omega
    refine List.pairwise_cons.2 ⟨fun z hz => ?_, ih⟩
    rcases List.mem_cons.1 hz with rfl | hz
    · exact h1
    · have := (List.pairwise_cons.1 ih).1 z hz; unfold ltT at *; omega
theorem asked_at {vs : List Int} {s : List It} {A B : List It} {x : It} (e : s = A ++ x :: B) (h : Asked vs s) : keepsB x B.head? vs = true := by
  subst e
  induction A with
  | nil => exact h.1
  | cons a A ih => exact ih h.2
/-- Without one of them another is told at a version asked for, or at the greatest one. -/
theorem keep_least {vs : List Int} {s A B : List It} {x : It} {M : Int} (hs : Srt s) (ha : Asked vs s) (e : s = A ++ x :: B) (hM : x.v ≤ M) :
    ∃ v ∈ vs ++ [M], latT s x.k v = some x ∧ latT (A ++ B) x.k v ≠ some x := by
  have hlt := asked_lt hs ha
  have hk := asked_at e ha
  have hAB : Srt (A ++ B) := sub_srt hs (by rw [e]; exact List.Sublist.append (List.Sublist.refl _) (List.sublist_cons_self _ _))
  have hlt' := hlt
  rw [e, List.pairwise_append] at hlt'
  obtain ⟨hA, hB, hABx⟩ := hlt'
  have hB' := List.pairwise_cons.1 hB
  have main : ∀ v, x.v ≤ v → (∀ y ∈ B, P8 x.k v y = false) → latT s x.k v = some x ∧ latT (A ++ B) x.k v ≠ some x := by
    intro v hxv hy
    have hB0 : B.filter (P8 x.k v) = [] := by rw [List.filter_eq_nil_iff]; intro y h1; rw [hy y h1]; simp
    have px : P8 x.k v x = true := P8_iff.2 ⟨rfl, hxv⟩
    constructor
    · rw [latT_srt hs, e, List.filter_append, List.filter_cons_of_pos px, hB0]; simp
    · rw [latT_srt hAB, List.filter_append, hB0, List.append_nil]
      intro hc
      have hm := List.mem_of_getLast? hc
      have := hABx x (List.mem_filter.1 hm).1 x (by simp)
      unfold ltT at this; omega
  rcases keepsB_iff.1 hk with h1 | ⟨v, hv, hxv, h1⟩
  · refine ⟨M, by simp, main M hM fun y hy => ?_⟩
    cases B with
    | nil => simp at hy
    | cons z B =>
      have hz := h1 z rfl
      have h2 := hB'.1 z (by simp)
      have h3 : leT z y := by
        rcases List.mem_cons.1 hy with rfl | hy
        · exact leT_refl _
        · exact ltT_le ((List.pairwise_cons.1 hB'.2).1 y hy)
      rw [Bool.eq_false_iff]; intro hp
      have := P8_iff.1 hp
      unfold leT ltT at *; omega
  · refine ⟨v, by simp [hv], main v hxv fun y hy => ?_⟩
    cases B with
    | nil => simp at hy
    | cons z B =>
      have hz := h1 z rfl
      have h2 := hB'.1 z (by simp)
      have h3 : leT z y := by
        rcases List.mem_cons.1 hy with rfl | hy
        · exact leT_refl _
        · exact ltT_le ((List.pairwise_cons.1 hB'.2).1 y hy)
      rw [Bool.eq_false_iff]; intro hp
      have := P8_iff.1 hp
      unfold leT ltT at *; omega
theorem countP_more {vs : List Int} {a b v : Int} (hv : v ∈ vs) (h1 : a ≤ v) (h2 : v < b) : vs.countP (fun u => decide (b ≤ u)) + 1 ≤ vs.countP (fun u => decide (a ≤ u)) := by
  induction vs with
  | nil => simp at hv
  | cons u vs ih =>
    have hmono : vs.countP (fun u => decide (b ≤ u)) ≤ vs.countP (fun u => decide (a ≤ u)) := List.countP_mono_left fun u _ => by simp; omega
    rw [List.countP_cons, List.countP_cons]
    rcases List.mem_cons.1 hv with rfl | hv
    · simp only [decide_eq_true_eq]; rw [if_neg (by omega), if_pos h1]; omega
    · have := ih hv
      simp only [decide_eq_true_eq]
      split <;> split <;> omega
theorem few {vs : List Int} {κ : Int} : ∀ {s : List It}, Srt s → Asked vs s → s.countP (fun x => x.k == κ) ≤ vs.length + 1 ∧ (∀ x, s.head? = some x → x.k = κ → s.countP (fun x => x.k == κ) ≤ vs.countP (fun u => decide (x.v ≤ u)) + 1)
  | [], _, _ => ⟨by simp, fun x h => by simp at h⟩
  | x :: r, h, ha => by
    obtain ⟨i1, i2⟩ := few (κ := κ) (srt_cons.1 h).2 ha.2
    have main : x.k = κ → (x :: r).countP (fun x => x.k == κ) ≤ vs.countP (fun u => decide (x.v ≤ u)) + 1 := by
      intro hx
      rw [List.countP_cons_of_pos (by simpa using hx)]
      cases r with
      | nil => simp
      | cons y r =>
        have hxy := (srt_cons.1 h).1 y (by simp)
        by_cases hy : y.k = κ
        · have := i2 y rfl hy
          rcases keepsB_iff.1 ha.1 with hk | ⟨v, hv, hxv, hk⟩
          · exact absurd (hy.trans hx.symm) (hk y rfl)
          · have h1 : v < y.v := by have := hk y rfl; omega
            have := countP_more hv hxv h1
            omega
        · have : (y :: r).countP (fun x => x.k == κ) = 0 := by
            rw [List.countP_eq_zero]
            intro z hz
            have h1 : leT y z := by
              rcases List.mem_cons.1 hz with rfl | hz
              · exact leT_refl _
              · exact (srt_cons.1 (srt_cons.1 h).2).1 z hz
            simp only [beq_iff_eq]; unfold leT at *; omega
          omega
    refine ⟨?_, fun z hz hk => by cases hz; exact main hk⟩
    by_cases hx : x.k = κ
    · have := main hx
      have := List.countP_le_length (p := fun u => decide (x.v ≤ u)) (l := vs)
      omega
    · rw [List.countP_cons_of_neg (by simpa using hx)]; exact i1
theorem keep_few (l : List It) (vs : List Int) (κ : Int) : (keepT l vs).countP (fun x => x.k == κ) ≤ vs.length + 1 := (few (keepT_srt l vs) (asked_keep l vs)).1
theorem keep_more (l : List It) (vs : List Int) (m : Int) : (keepT l vs).Sublist (keepT l (vs ++ [m])) := by
  unfold keepT
  generalize sortT l = s
  induction s with
  | nil => exact List.Sublist.refl _
  | cons x r ih =>
    rw [keepS_cons, keepS_cons]
    by_cases hk : keepsB x r.head? vs = true
    · rw [if_pos hk, if_pos]
      · exact ih.cons_cons x
      · rw [keepsB_iff] at *
        exact hk.imp id fun ⟨v, h1, h2⟩ => ⟨v, by simp [h1], h2⟩
    · rw [if_neg hk]
      split
      · exact ih.cons x
      · exact ih
/-- Keys. -/
def key1 (out : List Int) (x : It) : List Int := if out.getLast? = some x.k then out else out ++ [x.k]
def keysS (s : List It) : List Int := s.foldl key1 []
def keysT (l : List It) : List Int := keysS (sortT l)
theorem keysS_spec : ∀ (r : List It) (out : List Int), Srt r → out.Pairwise (· < ·) → (∀ o ∈ out, ∀ x ∈ r, o ≤ x.k) →
    (r.foldl key1 out).Pairwise (· < ·) ∧ ∀ k, k ∈ r.foldl key1 out ↔ k ∈ out ∨ ∃ x ∈ r, x.k = k
  | [], out, _, h, _ => ⟨h, fun k => by simp⟩
  | x :: r, out, hs, h, hb => by
    have hxr := (srt_cons.1 hs).1
    rw [List.foldl_cons]
    have hout : (key1 out x).Pairwise (· < ·) ∧ (∀ k, k ∈ key1 out x ↔ k ∈ out ∨ k = x.k) := by
      unfold key1
      split
      · rename_i he
        refine ⟨h, fun k => ⟨Or.inl, fun hk => hk.elim id fun e => e ▸ List.mem_of_getLast? he⟩⟩
      · rename_i he
        refine ⟨?_, fun k => by simp⟩
        rw [List.pairwise_append]
        refine ⟨h, by simp, fun a ha b hb' => ?_⟩
        simp at hb'; subst hb'
        have hle := hb a ha x (by simp)
        rcases Int.lt_or_eq_of_le hle with h1 | h1
        · exact h1
        · exfalso
          apply he
          subst h1
          obtain ⟨A, B, rfl⟩ := List.append_of_mem ha
          cases hB : B.getLast? with
          | none => rw [List.getLast?_eq_none_iff] at hB; subst hB; simp
          | some z =>
            have hz := List.mem_of_getLast? hB
            have h2 := (List.pairwise_append.1 h).2.1
            have h3 := (List.pairwise_cons.1 h2).1 z hz
            have h4 := hb z (by simp [hz]) x (by simp)
            omega
    obtain ⟨i1, i2⟩ := keysS_spec r (key1 out x) (srt_cons.1 hs).2 hout.1 (fun o ho y hy => by
      rcases (hout.2 o).1 ho with ho | rfl
      · exact hb o ho y (by simp [hy])
      · have := hxr y hy; unfold leT at this; omega)
    refine ⟨i1, fun k => ?_⟩
    rw [i2, hout.2]
    simp only [List.mem_cons, exists_eq_or_imp]
    constructor
    · rintro ((h | h) | h)
      · exact .inl h
      · exact .inr (.inl h.symm)
      · exact .inr (.inr h)
    · rintro (h | h | h)
      · exact .inl (.inl h)
      · exact .inl (.inr h.symm)
      · exact .inr h
theorem keysT_rise (l : List It) : (keysT l).Pairwise (· < ·) := (keysS_spec _ [] (sortT_srt l) List.Pairwise.nil (by simp)).1
theorem mem_keysT {l : List It} {k : Int} : k ∈ keysT l ↔ ∃ x ∈ l, x.k = k := by
  have := (keysS_spec _ [] (sortT_srt l) List.Pairwise.nil (by simp)).2 k
  simp only [List.not_mem_nil, false_or] at this
  unfold keysT keysS
  rw [this]
  exact ⟨fun ⟨x, h, e⟩ => ⟨x, mem_sortT.1 h, e⟩, fun ⟨x, h, e⟩ => ⟨x, mem_sortT.2 h, e⟩⟩
theorem rise_eq : ∀ {a b : List Int}, a.Pairwise (· < ·) → b.Pairwise (· < ·) → (∀ k, k ∈ a ↔ k ∈ b) → a = b
  | [], [], _, _, _ => rfl
  | [], y :: b, _, _, h => absurd ((h y).2 (by simp)) (by simp)
  | x :: a, [], _, _, h => absurd ((h x).1 (by simp)) (by simp)
  | x :: a, y :: b, ha, hb, h => by
    have e : x = y := by
      rcases List.mem_cons.1 ((h x).1 (by simp)) with e | e
      · exact e
      · rcases List.mem_cons.1 ((h y).2 (by simp)) with e' | e'
        · exact e'.symm
        · have := (List.pairwise_cons.1 ha).1 _ e'; have := (List.pairwise_cons.1 hb).1 _ e; omega
    subst e
    congr 1
    refine rise_eq (List.pairwise_cons.1 ha).2 (List.pairwise_cons.1 hb).2 fun k => ?_
    have := h k
    simp only [List.mem_cons] at this
    constructor
    · intro hk
      rcases this.1 (.inr hk) with rfl | h1
      · have := (List.pairwise_cons.1 ha).1 _ hk; omega
      · exact h1
    · intro hk
      rcases this.2 (.inr hk) with rfl | h1
      · have := (List.pairwise_cons.1 hb).1 _ hk; omega
      · exact h1
theorem keep_keys (l : List It) (vs : List Int) : keysT (keepT l vs) = keysT l := by
  refine rise_eq (keysT_rise _) (keysT_rise _) fun k => ?_
  rw [mem_keysT, mem_keysT]
  constructor
  · rintro ⟨x, hx, rfl⟩
    exact ⟨x, mem_sortT.1 ((keepS_sub vs _).subset hx), rfl⟩
  · rintro ⟨x, hx, rfl⟩
    obtain ⟨M, hM⟩ : ∃ M : Int, ∀ y ∈ l, y.v ≤ M := by
      clear hx
      induction l with
      | nil => exact ⟨0, by simp⟩
      | cons a l ih => obtain ⟨M, hM⟩ := ih; exact ⟨max a.v M, fun y hy => by rcases List.mem_cons.1 hy with rfl | hy; omega; have := hM y hy; omega⟩
    have h1 := keep_lat l (vs := vs) (k := x.k) (v := M) (Or.inr hM)
    have h2 : latT l x.k M ≠ none := by
      rw [latT_eq, Ne, List.getLast?_eq_none_iff, List.filter_eq_nil_iff]
      intro h; exact h x (mem_sortT.2 hx) (P8_iff.2 ⟨rfl, hM x hx⟩)
    rw [← h1, latT_srt (keepT_srt l vs)] at h2
    obtain ⟨z, hz⟩ := Option.ne_none_iff_exists'.1 h2
    have hm := List.mem_filter.1 (List.mem_of_getLast? hz)
    exact ⟨z, hm.1, (P8_iff.1 hm.2).1⟩
/-- The last one of each slot. -/
def dl : List It → List It
  | [] => []
  | x :: r => if (r.head?.any fun y => atS x.k x.v y) = true then dl r else x :: dl r
theorem dl_cons (x : It) (r : List It) : dl (x :: r) = if (r.head?.any fun y => atS x.k x.v y) = true then dl r else x :: dl r := rfl
theorem dl_sub : ∀ s, (dl s).Sublist s
  | [] => List.Sublist.refl _
  | x :: r => by rw [dl_cons]; split; exact (dl_sub r).cons x; exact (dl_sub r).cons_cons x
theorem dl_head : ∀ s : List It, (dl s).head?.map (fun x => (x.k, x.v)) = s.head?.map (fun x => (x.k, x.v))
  | [] => rfl
  | [x] => rfl
  | x :: y :: r => by
    rw [dl_cons]; split
    · rename_i h
      rw [dl_head (y :: r)]
      simp only [List.head?_cons, Option.any_some] at h
      have := atS_iff.1 h
      simp [this.1, this.2]
    · rfl
theorem keepsB_head {x : It} {a b : Option It} {vs : List Int} (h : a.map (fun x => (x.k, x.v)) = b.map (fun x => (x.k, x.v))) : keepsB x a vs = keepsB x b vs := by
  cases a with
  | none => cases b with
    | none => rfl
    | some y => simp at h
  | some z => cases b with
    | none => simp at h
    | some y => simp at h; unfold keepsB; simp [h.1, h.2]
theorem keepS_dl (vs : List Int) : ∀ s, keepS vs (dl s) = keepS vs s
  | [] => rfl
  | x :: r => by
    have ih := keepS_dl vs r
    rw [dl_cons]
    split
    · rename_i h
      cases r with
      | nil => simp at h
      | cons y r =>
        simp only [List.head?_cons, Option.any_some] at h
        have h1 := atS_iff.1 h
        rw [ih, keepS_cons vs x, if_neg]
        rw [keepsB_iff]
        rintro (h2 | ⟨v, -, h2, h3⟩)
        · exact h2 y rfl h1.1
        · have := h3 y rfl; omega
    · rw [keepS_cons, keepS_cons, ih, keepsB_head (dl_head r)]
theorem dl_lt : ∀ {s}, Srt s → (dl s).Pairwise ltT
  | [], _ => List.Pairwise.nil
  | x :: r, h => by
    have ih := dl_lt (srt_cons.1 h).2
    rw [dl_cons]; split
    · exact ih
    · rename_i hn
      refine List.pairwise_cons.2 ⟨fun z hz => ?_, ih⟩
      cases r with
      | nil => exact absurd ((dl_sub []).subset hz) (by simp)
      | cons y r =>
        have h1 : leT x y := (srt_cons.1 h).1 y (by simp)
        have h2 : leT y z := by
          rcases List.mem_cons.1 ((dl_sub _).subset hz) with rfl | hz
          · exact leT_refl _
          · exact (srt_cons.1 (srt_cons.1 h).2).1 z hz
        have h3 : ¬ (y.k = x.k ∧ y.v = x.v) := fun c => hn (by simpa using atS_iff.2 c)
        unfold leT ltT at *; omega
theorem dl_cls (k v : Int) : ∀ {s : List It}, Srt s → (dl s).filter (atS k v) = (s.filter (atS k v)).getLast?.toList
  | [], _ => rfl
  | x :: r, h => by
    have ih := dl_cls k v (srt_cons.1 h).2
    rw [dl_cons]
    split
    · rename_i hn
      cases r with
      | nil => simp at hn
      | cons y r =>
        simp only [List.head?_cons, Option.any_some] at hn
        have h1 := atS_iff.1 hn
        rw [ih]
        by_cases p : atS k v x = true
        · have p' := atS_iff.1 p
          have py : atS k v y = true := atS_iff.2 ⟨by omega, by omega⟩
          rw [List.filter_cons_of_pos p, List.filter_cons_of_pos py]
          simp [List.getLast?_cons]
        · rw [List.filter_cons_of_neg p]
    · rename_i hn
      by_cases p : atS k v x = true
      · have p' := atS_iff.1 p
        have hr : r.filter (atS k v) = [] := by
          rw [List.filter_eq_nil_iff]
          intro z hz hp
          have hp' := atS_iff.1 hp
          cases r with
          | nil => simp at hz
          | cons y r =>
            have h1 : leT x y := (srt_cons.1 h).1 y (by simp)
            have h2 : leT y z := by
              rcases List.mem_cons.1 hz with rfl | hz
              · exact leT_refl _
              · exact (srt_cons.1 (srt_cons.1 h).2).1 z hz
            have h3 : ¬ (y.k = x.k ∧ y.v = x.v) := fun c => hn (by simpa using atS_iff.2 c)
            unfold leT at *; omega
        rw [List.filter_cons_of_pos p, List.filter_cons_of_pos p, ih, hr]; rfl
      · rw [List.filter_cons_of_neg p, List.filter_cons_of_neg p, ih]
theorem lt_cls {c : List It} (h : c.Pairwise ltT) (k v : Int) : (c.filter (atS k v)).length ≤ 1 := by
  have h1 : (c.filter (atS k v)).Pairwise ltT := List.Pairwise.sublist List.filter_sublist h
  have h2 : ∀ y ∈ c.filter (atS k v), y.k = k ∧ y.v = v := fun y hy => atS_iff.1 (List.mem_filter.1 hy).2
  generalize c.filter (atS k v) = t at *
  match t with
  | [] => simp
  | [_] => simp
  | a :: b :: _ =>
    have := (List.pairwise_cons.1 h1).1 b (by simp)
    have := h2 a (by simp)
    have := h2 b (by simp)
    unfold ltT at *; omega
/-- A list that holds just the last of each slot, in order. -/
theorem dl_eq {l c : List It} (h : c.Pairwise ltT) (hc : ∀ x, x ∈ c ↔ (l.filter (atS x.k x.v)).getLast? = some x) : c = dl (sortT l) := by
  refine srt_unique _ _ (h.imp ltT_le) (sub_srt (sortT_srt l) (dl_sub _)) fun k v => ?_
  rw [dl_cls k v (sortT_srt l), sortT_cls]
  have h1 := lt_cls h k v
  cases ht : c.filter (atS k v) with
  | nil =>
    cases hl : (l.filter (atS k v)).getLast? with
    | none => rfl
    | some x =>
      have hx := List.mem_filter.1 (List.mem_of_getLast? hl)
      have hp := atS_iff.1 hx.2
      have : x ∈ c := (hc x).2 (by rw [hp.1, hp.2]; exact hl)
      have : x ∈ c.filter (atS k v) := List.mem_filter.2 ⟨this, hx.2⟩
      rw [ht] at this; simp at this
  | cons x t =>
    rw [ht] at h1
    have ht0 : t = [] := by cases t with | nil => rfl | cons => simp at h1
    subst ht0
    have hx : x ∈ c.filter (atS k v) := by rw [ht]; simp
    have hx' := List.mem_filter.1 hx
    have hp := atS_iff.1 hx'.2
    have := (hc x).1 hx'.1
    rw [hp.1, hp.2] at this
    rw [this]; rfl
theorem keep_of {l c : List It} {vs : List Int} (h : c.Pairwise ltT) (hc : ∀ x, x ∈ c ↔ (l.filter (atS x.k x.v)).getLast? = some x) : keepS vs c = keepT l vs := by
  rw [dl_eq h hc, keepS_dl]; rfl
instance : Inhabited It := ⟨⟨0, 0, 0⟩⟩
/-- What compare answers. -/
def cfT (x y : It) : Int := if x.k < y.k then -1 else if y.k < x.k then 1 else if x.v < y.v then -1 else if y.v < x.v then 1 else 0
theorem cfT_lt {x y : It} : cfT x y < 0 ↔ ltT x y := by
  unfold cfT ltT
  split
  · constructor <;> (intro h; omega)
  · split
    · constructor <;> (intro h; omega)
    · split
      · constructor <;> (intro h; omega)
      · split <;> (constructor <;> (intro h; omega))
theorem not_ltT {x y : It} : ¬ ltT x y ↔ leT y x := by unfold ltT leT; omega
/-- The ranges a .. m and m .. b exchanged. -/
def rotF (f : Nat → It) (a m b t : Nat) : It := if a ≤ t ∧ t < a + (b - m) then f (t + (m - a)) else if a + (b - m) ≤ t ∧ t < b then f (t - (b - m)) else f t
structure Rot (a m b : Nat) (d d' : Array It) : Prop where
  size : d'.size = d.size
  at_ : ∀ t, d'[t]! = rotF (fun i => d[i]!) a m b t
theorem Rot.refl1 {a b : Nat} (d : Array It) (h : a ≤ b) : Rot a a b d d := ⟨rfl, fun t => by unfold rotF; split; simp; split; (exfalso; omega); rfl⟩
theorem Rot.refl2 {a b : Nat} (d : Array It) (h : a ≤ b) : Rot a b b d d := ⟨rfl, fun t => by unfold rotF; split; (exfalso; omega); split; simp; rfl⟩
theorem swp_left {a k : Nat} {d dk : Array It} (h : Rot a (a + 1) (k + 1) d dk) (ha : a ≤ k) (hk : k + 1 < d.size) : Rot a (a + 1) (k + 2) d (swp dk k (k + 1)) := by
  have hs := h.size
  refine ⟨by rw [swp_size]; exact hs, fun t => ?_⟩
  rw [swp_get dk (i := k) (j := k + 1) (by omega) (by omega), h.at_, h.at_, h.at_]
  unfold rotF
  repeat' split
  all_goals first | rfl | (exfalso; omega) | (congr 1; omega) | (congr 2; omega)
theorem swp_right {k m : Nat} {d dk : Array It} (h : Rot (k + 1) m (m + 1) d dk) (hk : k + 1 ≤ m) (hm : m < d.size) : Rot k m (m + 1) d (swp dk (k + 1) k) := by
  have hs := h.size
  refine ⟨by rw [swp_size]; exact hs, fun t => ?_⟩
  rw [swp_get dk (i := k + 1) (j := k) (by omega) (by omega), h.at_, h.at_, h.at_]
  unfold rotF
  repeat' split
  all_goals first | rfl | (exfalso; omega) | (congr 1; omega) | (congr 2; omega)
/-- n cells from a on exchanged with those from b on. -/
def swrF (f : Nat → It) (a b n t : Nat) : It := if a ≤ t ∧ t < a + n then f (t + (b - a)) else if b ≤ t ∧ t < b + n then f (t - (b - a)) else f t
structure Swr (a b n : Nat) (d d' : Array It) : Prop where
  size : d'.size = d.size
  at_ : ∀ t, d'[t]! = swrF (fun i => d[i]!) a b n t
theorem Swr.zero (a b : Nat) (d : Array It) : Swr a b 0 d d := ⟨rfl, fun t => by unfold swrF; rw [if_neg (by omega), if_neg (by omega)]⟩
theorem Swr.more {a b n : Nat} {d dk : Array It} (h : Swr a b n d dk) (hab : a + n < b) (hb : b + n < d.size) : Swr a b (n + 1) d (swp dk (a + n) (b + n)) := by
  have hs := h.size
  refine ⟨by rw [swp_size]; exact hs, fun t => ?_⟩
  rw [swp_get dk (i := a + n) (j := b + n) (by omega) (by omega), h.at_, h.at_, h.at_]
  unfold swrF
  repeat' split
  all_goals first | rfl | (exfalso; omega) | (congr 1; omega) | (congr 2; omega)
/-- What is left of a rotation, i cells against j around m. -/
structure RotTo (a m b i j : Nat) (d dk : Array It) : Prop where
  size : dk.size = d.size
  at_ : ∀ t, rotF (fun x => dk[x]!) (m - i) m (m + j) t = rotF (fun x => d[x]!) a m b t
theorem RotTo.start {a m b : Nat} (d : Array It) (h1 : a ≤ m) (h2 : m ≤ b) : RotTo a m b (m - a) (b - m) d d := ⟨rfl, fun t => by rw [show m - (m - a) = a by omega, show m + (b - m) = b by omega]⟩
theorem RotTo.gt {a m b i j : Nat} {d dk d2 : Array It} (h : RotTo a m b i j d dk) (hij : j < i) (him : i ≤ m) (s : Swr (m - i) m j dk d2) : RotTo a m b (i - j) j d d2 := by
  refine ⟨s.size.trans h.size, fun t => ?_⟩
  rw [← h.at_ t]
  unfold rotF
  simp only [s.at_, swrF]
  repeat' split
  all_goals first | rfl | (exfalso; omega) | (congr 1; omega) | (congr 2; omega)
theorem RotTo.lt {a m b i j : Nat} {d dk d2 : Array It} (h : RotTo a m b i j d dk) (hij : i < j) (him : i ≤ m) (s : Swr (m - i) (m + j - i) i dk d2) : RotTo a m b i (j - i) d d2 := by
  refine ⟨s.size.trans h.size, fun t => ?_⟩
  rw [← h.at_ t]
  unfold rotF
  simp only [s.at_, swrF]
  repeat' split
  all_goals first | rfl | (exfalso; omega) | (congr 1; omega) | (congr 2; omega)
theorem RotTo.eq {a m b i : Nat} {d dk d2 : Array It} (h : RotTo a m b i i d dk) (him : i ≤ m) (s : Swr (m - i) m i dk d2) : Rot a m b d d2 := by
  refine ⟨s.size.trans h.size, fun t => ?_⟩
  rw [← h.at_ t, s.at_]
  unfold rotF swrF
  repeat' split
  all_goals first | rfl | (exfalso; omega) | (congr 1; omega) | (congr 2; omega)
/-- Lists of a range. -/
def seg (f : Nat → It) (s n : Nat) : List It := (List.range' s n).map f
theorem seg_app (f : Nat → It) (s m n : Nat) : seg f s (m + n) = seg f s m ++ seg f (s + m) n := by
  unfold seg; rw [← List.map_append, List.range'_append_1]
theorem seg_congr {f g : Nat → It} {s s' n : Nat} (h : ∀ i, i < n → f (s + i) = g (s' + i)) : seg f s n = seg g s' n := by
  unfold seg
  apply List.ext_getElem
  · simp
  · intro i h1 h2
    simp at h1
    simp [h i h1]
theorem mem_seg {f : Nat → It} {s n : Nat} {x : It} : x ∈ seg f s n ↔ ∃ i, i < n ∧ x = f (s + i) := by
  unfold seg
  simp only [List.mem_map, List.mem_range'_1]
  constructor
  · rintro ⟨t, ⟨h1, h2⟩, rfl⟩; exact ⟨t - s, by omega, by congr 1; omega⟩
  · rintro ⟨i, h, rfl⟩; exact ⟨s + i, by omega, rfl⟩
theorem toList_seg (d : Array It) : d.toList = seg (fun i => d[i]!) 0 d.size := by
  unfold seg
  apply List.ext_getElem
  · simp
  · intro i h1 h2
    simp at h1
    simp [h1]
def Cls (d d' : Array It) : Prop := ∀ k v, d'.toList.filter (atS k v) = d.toList.filter (atS k v)
theorem filter_swap {u v : List It} (h : ∀ x ∈ u, ∀ y ∈ v, ltT y x) (k w : Int) : (v ++ u).filter (atS k w) = (u ++ v).filter (atS k w) := by
  rw [List.filter_append, List.filter_append]
  by_cases hu : u.filter (atS k w) = []
  · rw [hu]; simp
  · obtain ⟨x, hx⟩ := List.exists_mem_of_ne_nil _ hu
    have hv : v.filter (atS k w) = [] := by
      rw [List.filter_eq_nil_iff]
      intro y hy hp
      have h1 := List.mem_filter.1 hx
      have h2 := h x h1.1 y hy
      have h3 := atS_iff.1 h1.2
      have h4 := atS_iff.1 hp
      unfold ltT at h2; omega
    rw [hv]; simp
theorem rot_cls {a m b : Nat} {d d' : Array It} (h : Rot a m b d d') (ham : a ≤ m) (hmb : m ≤ b) (hb : b ≤ d.size)
    (hlt : ∀ i j, a ≤ i → i < m → m ≤ j → j < b → ltT d[j]! d[i]!) : Cls d d' := by
  intro k v
  rw [toList_seg, toList_seg, h.size]
  have e : d.size = a + ((m - a) + ((b - m) + (d.size - b))) := by omega
  have e' : d.size = a + ((b - m) + ((m - a) + (d.size - b))) := by omega
  conv => lhs; rw [e']
  conv => rhs; rw [e]
  rw [seg_app, seg_app, seg_app, seg_app, seg_app, seg_app]
  have s1 : seg (fun i => d'[i]!) 0 a = seg (fun i => d[i]!) 0 a := seg_congr fun i hi => by
    simp only [h.at_]; unfold rotF; rw [if_neg (by omega), if_neg (by omega)]
  have s2 : seg (fun i => d'[i]!) (0 + a) (b - m) = seg (fun i => d[i]!) (0 + a + (m - a)) (b - m) := seg_congr fun i hi => by
    simp only [h.at_]; unfold rotF; rw [if_pos (by omega)]; first | (congr 1; omega) | (congr 2; omega)
  have s3 : seg (fun i => d'[i]!) (0 + a + (b - m)) (m - a) = seg (fun i => d[i]!) (0 + a) (m - a) := seg_congr fun i hi => by
    simp only [h.at_]; unfold rotF; rw [if_neg (by omega), if_pos (by omega)]; first | (congr 1; omega) | (congr 2; omega)
  have s4 : seg (fun i => d'[i]!) (0 + a + (b - m) + (m - a)) (d.size - b) = seg (fun i => d[i]!) (0 + a + (m - a) + (b - m)) (d.size - b) := seg_congr fun i hi => by
    simp only [h.at_]; unfold rotF; rw [if_neg (by omega), if_neg (by omega)]; first | (congr 1; omega) | (congr 2; omega)
  rw [s1, s2, s3, s4]
  have := filter_swap (u := seg (fun i => d[i]!) (0 + a) (m - a)) (v := seg (fun i => d[i]!) (0 + a + (m - a)) (b - m)) (fun x hx y hy => by
    obtain ⟨i, hi, rfl⟩ := mem_seg.1 hx
    obtain ⟨j, hj, rfl⟩ := mem_seg.1 hy
    exact hlt _ _ (by omega) (by omega) (by omega) (by omega)) k v
  rw [List.filter_append] at this
  simp only [List.filter_append] at *
  rw [← List.append_assoc (List.filter _ (seg _ (0 + a + (m - a)) (b - m))), this, List.append_assoc]
/-- In order from a to b. -/
def SrtI (a b : Nat) (d : Array It) : Prop := ∀ i j, a ≤ i → i < j → j < b → leT d[i]! d[j]!
theorem SrtI.le {a b : Nat} {d : Array It} (h : SrtI a b d) {i j : Nat} (h1 : a ≤ i) (h2 : i ≤ j) (h3 : j < b) : leT d[i]! d[j]! := by
  by_cases e : i = j
  · subst e; exact leT_refl _
  · exact h i j h1 (by omega) h3
theorem SrtI.none {a b : Nat} {d : Array It} (h : b ≤ a + 1) : SrtI a b d := fun i j h1 h2 h3 => absurd h2 (by omega)
/-- From a to b the same items, as they stood in their classes; the others as they were. -/
structure Mrg (a b : Nat) (d d' : Array It) : Prop where
  size : d'.size = d.size
  out : ∀ t, t < a ∨ b ≤ t → d'[t]! = d[t]!
  mem : ∀ t, a ≤ t → t < b → ∃ s, a ≤ s ∧ s < b ∧ d'[t]! = d[s]!
  cls : Cls d d'
theorem Mrg.refl (a b : Nat) (d : Array It) : Mrg a b d d := ⟨rfl, fun _ _ => rfl, fun t h1 h2 => ⟨t, h1, h2, rfl⟩, fun _ _ => rfl⟩
theorem Mrg.trans {a b : Nat} {d e f : Array It} (h : Mrg a b d e) (g : Mrg a b e f) : Mrg a b d f :=
  ⟨g.size.trans h.size, fun t ht => (g.out t ht).trans (h.out t ht), fun t h1 h2 => by
    obtain ⟨s, s1, s2, e1⟩ := g.mem t h1 h2
    obtain ⟨r, r1, r2, e2⟩ := h.mem s s1 s2
    exact ⟨r, r1, r2, e1.trans e2⟩, fun k v => (g.cls k v).trans (h.cls k v)⟩
theorem Mrg.mono {a b a' b' : Nat} {d e : Array It} (h : Mrg a b d e) (ha : a' ≤ a) (hb : b ≤ b') : Mrg a' b' d e :=
  ⟨h.size, fun t ht => h.out t (by omega), fun t h1 h2 => by
    by_cases c : a ≤ t ∧ t < b
    · obtain ⟨s, s1, s2, e1⟩ := h.mem t c.1 c.2
      exact ⟨s, by omega, by omega, e1⟩
    · exact ⟨t, h1, h2, h.out t (by omega)⟩, h.cls⟩
theorem Mrg.rot {a m b : Nat} {d d' : Array It} (h : Rot a m b d d') (ham : a ≤ m) (hmb : m ≤ b) (hb : b ≤ d.size)
    (hlt : ∀ i j, a ≤ i → i < m → m ≤ j → j < b → ltT d[j]! d[i]!) : Mrg a b d d' :=
  ⟨h.size, fun t ht => by rw [h.at_]; unfold rotF; rw [if_neg (by omega), if_neg (by omega)], fun t h1 h2 => by
    rw [h.at_]; unfold rotF
    by_cases c : a ≤ t ∧ t < a + (b - m)
    · exact ⟨t + (m - a), by omega, by omega, by rw [if_pos c]⟩
    · exact ⟨t - (b - m), by omega, by omega, by rw [if_neg c, if_pos (by omega)]⟩, rot_cls h ham hmb hb hlt⟩
theorem lt_le {x y z : It} (h : ltT x y) (g : leT y z) : ltT x z := by unfold ltT leT at *; omega
theorem le_lt {x y z : It} (h : leT x y) (g : ltT y z) : ltT x z := by unfold ltT leT at *; omega
/-- One item merged into what stands behind it. -/
theorem mrg_first {a b i : Nat} {d d' : Array It} (hr : SrtI (a + 1) b d) (hi : a + 1 ≤ i) (hib : i ≤ b) (hb : b ≤ d.size)
    (h1 : i = a + 1 ∨ ltT d[i - 1]! d[a]!) (h2 : i = b ∨ ¬ ltT d[i]! d[a]!) (h : Rot a (a + 1) i d d') : SrtI a b d' ∧ Mrg a b d d' := by
  have hlt : ∀ x j, a ≤ x → x < a + 1 → a + 1 ≤ j → j < i → ltT d[j]! d[x]! := fun x j x1 x2 j1 j2 => by
    have : x = a := by omega
    subst this
    rcases h1 with h1 | h1
    · omega
    · exact le_lt (hr.le j1 (by omega) (by omega)) h1
  refine ⟨fun x y x1 xy yb => ?_, (Mrg.rot h (by omega) hi (by omega) hlt).mono (Nat.le_refl _) hib⟩
  rw [h.at_, h.at_]
  unfold rotF
  have h2' : i < b → leT d[a]! d[i]! := fun c => by rcases h2 with h2 | h2; omega; exact not_ltT.1 h2
  by_cases c1 : x < i - 1
  · rw [if_pos (by omega)]
    by_cases c2 : y < i - 1
    · rw [if_pos (by omega)]; exact hr.le (by omega) (by omega) (by omega)
    · rw [if_neg (by omega)]
      by_cases c3 : y = i - 1
      · rw [if_pos (by omega)]
        have : y - (i - (a + 1)) = a := by omega
        rw [this]; exact ltT_le (hlt a _ (Nat.le_refl _) (by omega) (by omega) (by omega))
      · rw [if_neg (by omega)]; exact hr.le (by omega) (by omega) (by omega)
  · rw [if_neg (by omega)]
    by_cases c3 : x = i - 1
    · rw [if_pos (by omega), if_neg (by omega), if_neg (by omega)]
      have : x - (i - (a + 1)) = a := by omega
      rw [this]; exact leT_trans (h2' (by omega)) (hr.le (by omega) (by omega) (by omega))
    · rw [if_neg (by omega), if_neg (by omega), if_neg (by omega)]; exact hr.le (by omega) (by omega) (by omega)
/-- One item merged into what stands ahead of it. -/
theorem mrg_last {a m i : Nat} {d d' : Array It} (hl : SrtI a m d) (hi : a ≤ i) (him : i ≤ m) (hb : m + 1 ≤ d.size)
    (h1 : i = a ∨ ¬ ltT d[m]! d[i - 1]!) (h2 : i = m ∨ ltT d[m]! d[i]!) (h : Rot i m (m + 1) d d') : SrtI a (m + 1) d' ∧ Mrg a (m + 1) d d' := by
  have hlt : ∀ x j, i ≤ x → x < m → m ≤ j → j < m + 1 → ltT d[j]! d[x]! := fun x j x1 x2 j1 j2 => by
    have : j = m := by omega
    subst this
    rcases h2 with h2 | h2
    · omega
    · exact lt_le h2 (hl.le hi x1 x2)
  refine ⟨fun x y x1 xy yb => ?_, (Mrg.rot h him (by omega) hb hlt).mono hi (Nat.le_refl _)⟩
  rw [h.at_, h.at_]
  unfold rotF
  have h1' : a < i → leT d[i - 1]! d[m]! := fun c => by rcases h1 with h1 | h1; omega; exact not_ltT.1 h1
  by_cases c1 : x < i
  · rw [if_neg (by omega), if_neg (by omega)]
    by_cases c2 : y < i
    · rw [if_neg (by omega), if_neg (by omega)]; exact hl.le (by omega) (by omega) (by omega)
    · by_cases c3 : y = i
      · rw [if_pos (by omega)]
        have : y + (m - i) = m := by omega
        rw [this]; exact leT_trans (hl.le (by omega) (show x ≤ i - 1 by omega) (by omega)) (h1' (by omega))
      · rw [if_neg (by omega), if_pos (by omega)]; exact hl.le (by omega) (by omega) (by omega)
  · by_cases c3 : x = i
    · rw [if_pos (by omega), if_neg (by omega), if_pos (by omega)]
      have : x + (m - i) = m := by omega
      rw [this]; exact ltT_le (hlt _ _ (by omega) (by omega) (by omega) (by omega))
    · rw [if_neg (by omega), if_pos (by omega), if_neg (by omega), if_pos (by omega)]; exact hl.le (by omega) (by omega) (by omega)
/-- What the search in the middle finds. -/
structure Cut (a m b mid st : Nat) (d : Array It) : Prop where
  lo : a ≤ st
  le : st ≤ mid
  lm : st ≤ m
  hi : mid + m ≤ st + b
  h1 : st = a ∨ mid + m = st + b ∨ ¬ ltT d[mid + m - st]! d[st - 1]!
  h2 : st = m ∨ st = mid ∨ ltT d[mid + m - 1 - st]! d[st]!
theorem Cut.lt {a m b mid st : Nat} {d : Array It} (c : Cut a m b mid st d) (ham : a ≤ m) (hmb : m ≤ b) (hl : SrtI a m d) (hr : SrtI m b d) :
    ∀ i j, st ≤ i → i < m → m ≤ j → j < mid + m - st → ltT d[j]! d[i]! := fun i j i1 i2 j1 j2 => by
  have := c.lo; have := c.hi; have := c.le
  rcases c.h2 with h | h | h
  · omega
  · omega
  · exact lt_le (le_lt (hr.le j1 (show j ≤ mid + m - 1 - st by omega) (by omega)) h) (hl.le c.lo i1 i2)
theorem Cut.mrg {a m b mid st : Nat} {d d1 : Array It} (c : Cut a m b mid st d) (ham : a ≤ m) (hmb : m ≤ b) (hb : b ≤ d.size) (hl : SrtI a m d) (hr : SrtI m b d) (h : Rot st m (mid + m - st) d d1) : Mrg a b d d1 :=
  have := c.lo; have := c.hi; have := c.le; have := c.lm
  (Mrg.rot h c.lm (by omega) (by omega) (c.lt ham hmb hl hr)).mono c.lo (by omega)
theorem Cut.parts {a m b mid st : Nat} {d d1 : Array It} (c : Cut a m b mid st d) (ham : a ≤ m) (hmb : m ≤ b) (hmid : mid ≤ b) (hl : SrtI a m d) (hr : SrtI m b d) (h : Rot st m (mid + m - st) d d1) :
    SrtI a st d1 ∧ SrtI st mid d1 ∧ SrtI mid (mid + m - st) d1 ∧ SrtI (mid + m - st) b d1 ∧ ∀ i j, a ≤ i → i < mid → mid ≤ j → j < b → leT d1[i]! d1[j]! := by
  have := c.lo; have := c.hi; have := c.le; have := c.lm
  have g0 : ∀ t, t < st → d1[t]! = d[t]! := fun t ht => by rw [h.at_]; unfold rotF; rw [if_neg (by omega), if_neg (by omega)]
  have g1 : ∀ t, st ≤ t → t < mid → d1[t]! = d[t + (m - st)]! := fun t h1 h2 => by rw [h.at_]; unfold rotF; rw [if_pos (by omega)]
  have g2 : ∀ t, mid ≤ t → t < mid + m - st → d1[t]! = d[t - (mid - st)]! := fun t h1 h2 => by
    rw [h.at_]; unfold rotF; rw [if_neg (by omega), if_pos (by omega)]; congr 2; omega
  have g3 : ∀ t, mid + m - st ≤ t → d1[t]! = d[t]! := fun t ht => by rw [h.at_]; unfold rotF; rw [if_neg (by omega), if_neg (by omega)]
  refine ⟨fun i j i1 i2 i3 => ?_, fun i j i1 i2 i3 => ?_, fun i j i1 i2 i3 => ?_, fun i j i1 i2 i3 => ?_, fun i j i1 i2 j1 j2 => ?_⟩
  · rw [g0 _ (by omega), g0 _ (by omega)]; exact hl.le (by omega) (by omega) (by omega)
  · rw [g1 _ (by omega) (by omega), g1 _ (by omega) (by omega)]; exact hr.le (by omega) (by omega) (by omega)
  · rw [g2 _ (by omega) (by omega), g2 _ (by omega) (by omega)]; exact hl.le (by omega) (by omega) (by omega)
  · rw [g3 _ (by omega), g3 _ (by omega)]; exact hr.le (by omega) (by omega) (by omega)
  · by_cases c1 : i < st
    · rw [g0 _ c1]
      by_cases c2 : j < mid + m - st
      · rw [g2 _ j1 c2]; exact hl.le (by omega) (by omega) (by omega)
      · rw [g3 _ (by omega)]
        rcases c.h1 with e | e | e
        · omega
        · omega
        · exact leT_trans (hl.le i1 (show i ≤ st - 1 by omega) (by omega)) (leT_trans (not_ltT.1 e) (hr.le (by omega) (by omega) (by omega)))
    · rw [g1 _ (by omega) (by omega)]
      by_cases c2 : j < mid + m - st
      · rw [g2 _ j1 c2]; exact ltT_le (c.lt ham hmb hl hr _ _ (by omega) (by omega) (by omega) (by omega))
      · rw [g3 _ (by omega)]; exact hr.le (by omega) (by omega) (by omega)
/-- Both sides merged: all is. -/
theorem mrg_both {a mid b : Nat} {d1 d2 d3 : Array It} (ham : a ≤ mid) (hmb : mid ≤ b) (hx : ∀ i j, a ≤ i → i < mid → mid ≤ j → j < b → leT d1[i]! d1[j]!)
    (s1 : SrtI a mid d2) (m1 : Mrg a mid d1 d2) (s2 : SrtI mid b d3) (m2 : Mrg mid b d2 d3) : SrtI a b d3 ∧ Mrg a b d1 d3 := by
  refine ⟨fun i j i1 ij jb => ?_, (m1.mono (Nat.le_refl _) hmb).trans (m2.mono ham (Nat.le_refl _))⟩
  by_cases c1 : j < mid
  · rw [m2.out _ (.inl (by omega)), m2.out _ (.inl c1)]; exact s1 i j i1 ij c1
  · by_cases c2 : mid ≤ i
    · exact s2 i j c2 ij jb
    · rw [m2.out _ (.inl (by omega))]
      obtain ⟨s, q1, q2, e1⟩ := m1.mem i i1 (by omega)
      obtain ⟨r, r1, r2, e2⟩ := m2.mem j (by omega) jb
      rw [e1, e2, m1.out _ (.inr r1)]
      exact hx s r q1 q2 r1 r2
theorem swp_cls {d : Array It} {j : Nat} (hj : j + 1 < d.size) (h : ltT d[j + 1]! d[j]!) : Cls d (swp d (j + 1) j) := by
  have r0 : Rot (j + 1) (j + 1) (j + 2) d d := Rot.refl1 d (by omega)
  have r1 : Rot j (j + 1) (j + 2) d (swp d (j + 1) j) := swp_right r0 (Nat.le_refl _) hj
  exact rot_cls r1 (by omega) (by omega) (by omega) fun x y x1 x2 y1 y2 => by
    have e1 : x = j := by omega
    have e2 : y = j + 1 := by omega
    subst e1; subst e2; exact h
theorem insInner_cls (a : Nat) : ∀ (j : Nat) (d : Array It), j < d.size → Cls d (insInner (fun x y => decide (cfT x y < 0)) a j d) ∧ (insInner (fun x y => decide (cfT x y < 0)) a j d).size = d.size
  | 0, d, _ => ⟨fun _ _ => rfl, rfl⟩
  | j + 1, d, hj => by
    unfold insInner
    split
    · rename_i h
      simp only [Bool.and_eq_true, decide_eq_true_eq] at h
      have h1 := swp_cls hj (cfT_lt.1 h.2)
      have h2 := insInner_cls a j (swp d (j + 1) j) (by rw [swp_size]; omega)
      exact ⟨fun k v => (h2.1 k v).trans (h1 k v), h2.2.trans (swp_size _ _ _)⟩
    · exact ⟨fun _ _ => rfl, rfl⟩
theorem insOuter_cls (a b : Nat) : ∀ (n i : Nat) (d : Array It), b - i = n → b ≤ d.size → Cls d (insOuter (fun x y => decide (cfT x y < 0)) a b i d) := by
  intro n
  induction n with
  | zero => intro i d h hb; rw [Go.Proofs.insOuter_stop _ _ _ _ _ (by omega)]; exact fun _ _ => rfl
  | succ n ih =>
    intro i d h hb
    rw [Go.Proofs.insOuter_go _ _ _ _ _ (by omega)]
    obtain ⟨h1, h2⟩ := insInner_cls a i d (by omega)
    have h3 := ih (i + 1) _ (by omega) (show b ≤ (insInner (fun x y => decide (cfT x y < 0)) a i d).size by omega)
    exact fun k v => (h3 k v).trans (h1 k v)
theorem cfT_swo : SWO (fun x y : It => decide (cfT x y < 0)) where
  irrefl x := by rw [decide_eq_false_iff_not, cfT_lt]; unfold ltT; omega
  trans x y z h1 h2 := by simp only [decide_eq_true_eq, cfT_lt] at *; unfold ltT at *; omega
  ntrans x y z h1 h2 := by simp only [decide_eq_false_iff_not, cfT_lt] at *; unfold ltT at *; omega
theorem srtI_of {a b : Nat} {d : Array It} (h : SortedIn (fun x y : It => decide (cfT x y < 0)) a b d) : SrtI a b d := fun i j h1 h2 h3 => by
  have := h i j h1 h2 h3
  simp only [decide_eq_false_iff_not, cfT_lt] at this
  exact not_ltT.1 this
theorem permIn_mem {a b : Nat} {d d' : Array It} (h : PermIn a b d d') (hb : b ≤ d.size) (t : Nat) (h1 : a ≤ t) (h2 : t < b) : ∃ s, a ≤ s ∧ s < b ∧ d'[t]! = d[s]! := by
  have hs := h.1
  have : d'[t]! ∈ (d'.extract a b).toList := by
    rw [Array.mem_toList_iff, Array.mem_extract_iff_getElem]
    exact ⟨t - a, by omega, by simp [show a + (t - a) = t by omega, show t < d'.size by omega]⟩
  have := h.2.2.mem_iff.1 this
  rw [Array.mem_toList_iff, Array.mem_extract_iff_getElem] at this
  obtain ⟨k, hk, e⟩ := this
  exact ⟨a + k, by omega, by omega, by rw [← e]; simp [show a + k < d.size by omega]⟩
theorem ins_mrg {a b : Nat} {d : Array It} (hab : a ≤ b) (hb : b ≤ d.size) : SrtI a b (insertionSort (fun x y => decide (cfT x y < 0)) d a b) ∧ Mrg a b d (insertionSort (fun x y => decide (cfT x y < 0)) d a b) := by
  obtain ⟨h1, h2⟩ := insertionSort_holds cfT_swo d a b hab hb
  exact ⟨srtI_of h2, h1.1, h1.2.1, permIn_mem h1 hb, insOuter_cls a b _ _ d rfl hb⟩
/-- In order as a whole, its classes as they stood: the sorted list. -/
theorem stable_eq {d d' : Array It} (hs : d'.size = d.size) (h : SrtI 0 d.size d') (c : Cls d d') : d'.toList = sortT d.toList := by
  refine sort_eq ?_ c
  unfold Srt
  rw [List.pairwise_iff_getElem]
  intro i j hi hj hij
  simp at hi hj
  have := h i j (by omega) hij (by omega)
  simpa [hi, hj] using this
/-- Each item's Data is its place. -/
def num (l : List It) : List It := l.mapIdx fun i x => ⟨x.k, x.v, i⟩
theorem num_length (l : List It) : (num l).length = l.length := by simp [num]
theorem num_at {l : List It} {i : Nat} {x : It} (h : l[i]? = some x) : (num l)[i]? = some ⟨x.k, x.v, i⟩ := by simp [num, h]
theorem num_step {l : List It} {i : Nat} {x : It} (h : l[i]? = some x) : ((num l).take i ++ [(⟨x.k, x.v, i⟩ : It)]) ++ l.drop (i + 1) = (num l).take (i + 1) ++ l.drop (i + 1) := by
  rw [List.take_add_one, num_at h]; rfl
theorem num_pair (l : List It) : (num l).Pairwise fun a b => a.d < b.d := by
  rw [List.pairwise_iff_getElem]
  intro i j hi hj hij
  simp [num]; exact hij
def sumd (l : List It) : Int := (l.map (·.d)).sum
theorem sumd_app (a b : List It) : sumd (a ++ b) = sumd a + sumd b := by simp [sumd]
theorem sumd_take {s : List It} {i : Nat} {x : It} (h : s[i]? = some x) : sumd (s.take (i + 1)) = sumd (s.take i) + x.d := by
  rw [List.take_add_one, h, sumd_app]; simp [sumd]
theorem insT_sum {out : List It} (h : Srt out) (x : It) : sumd (insT out x) = sumd out + x.d := by
  obtain ⟨A, B, e, e2, -, -⟩ := insT_parts out x h
  rw [e2, e]; simp [sumd]; omega
theorem sortT_sum (l : List It) : sumd (sortT l) = sumd l := by
  suffices h : ∀ (l out : List It), Srt out → sumd (l.foldl insT out) = sumd out + sumd l by
    have := h l [] List.Pairwise.nil
    simpa [sumd, sortT] using this
  intro l
  induction l with
  | nil => intro out h; simp [sumd]
  | cons x l ih => intro out h; rw [List.foldl_cons, ih _ (insT_srt h x), insT_sum h]; simp [sumd]; omega
theorem num_take_sum (l : List It) : ∀ n, n ≤ l.length → 2 * sumd ((num l).take n) = n * ((n : Int) - 1)
  | 0, _ => by simp [sumd]
  | n + 1, h => by
    have hx : l[n]? = some l[n] := List.getElem?_eq_getElem (by omega)
    rw [sumd_take (num_at hx)]
    have ih := num_take_sum l n (by omega)
    show 2 * (sumd ((num l).take n) + (n : Int)) = _
    have e : ((n + 1 : Nat) : Int) * (((n + 1 : Nat) : Int) - 1) = n * ((n : Int) - 1) + 2 * n := by
      have : ((n + 1 : Nat) : Int) = (n : Int) + 1 := by omega
      rw [this, show (n : Int) + 1 - 1 = n by omega, Int.add_mul, Int.mul_sub]; omega
    omega
theorem num_sum (l : List It) : 2 * sumd (sortT (num l)) = l.length * ((l.length : Int) - 1) := by
  rw [sortT_sum]
  have := num_take_sum l l.length (Nat.le_refl _)
  rwa [List.take_of_length_le (by rw [num_length]; exact Nat.le_refl _)] at this
theorem num_next {l : List It} {i : Nat} {a b : It} (ha : (sortT (num l))[i]? = some a) (hb : (sortT (num l))[i + 1]? = some b) : a.k < b.k ∨ a.k = b.k ∧ (a.v < b.v ∨ a.v = b.v ∧ a.d < b.d) := by
  have hs := sortT_srt (num l)
  obtain ⟨h1, rfl⟩ := List.getElem?_eq_some_iff.1 ha
  obtain ⟨h2, rfl⟩ := List.getElem?_eq_some_iff.1 hb
  have hle := (List.pairwise_iff_getElem.1 hs) i (i + 1) h1 h2 (by omega)
  have hc : ∀ k v, ((sortT (num l)).filter (atS k v)).Pairwise fun a b => a.d < b.d := fun k v => by
    rw [sortT_cls]; exact List.Pairwise.sublist List.filter_sublist (num_pair l)
  have hd := hc (sortT (num l))[i].k (sortT (num l))[i].v
  rw [List.pairwise_filter] at hd
  have := (List.pairwise_iff_getElem.1 hd) i (i + 1) h1 h2 (by omega)
  generalize (sortT (num l))[i] = a at *
  generalize (sortT (num l))[i + 1] = b at *
  unfold leT at hle
  by_cases e : a.k = b.k ∧ a.v = b.v
  · have := this (atS_iff.2 ⟨rfl, rfl⟩) (atS_iff.2 ⟨e.1.symm, e.2.symm⟩); omega
  · omega
end Go.Proofs.YtdnilnjlbobcmaaDoor.Mx
/- What groups of items in order keep to (layer 9): functions of lists alone. -/

namespace Go.Proofs.YtdnilnjlbobcmaaDoor.Mx
set_option linter.unusedVariables false
set_option linter.unusedSimpArgs false
/-- What the groups so far keep to: out, the last one still open, what lies ahead. -/
structure Grs (half : Int) (out : List (List It)) (cur l : List It) : Prop where
  srt : Srt (out.flatten ++ cur ++ l)
  full : ∀ g ∈ out, g ≠ []
  cur0 : cur = [] → out = []
  apart : (out ++ [cur]).Pairwise fun a b => ∀ x ∈ a, ∀ y ∈ b, x.k < y.k
  ahead : ∀ x ∈ out.flatten ++ cur, ∀ y ∈ l, x.k < y.k
  small : ∀ g ∈ out ++ [cur], half < (g.length : Int) → ∀ x ∈ g, ∀ y ∈ g, x.k = y.k
theorem rest_above {x : It} : ∀ {r : List It}, (∀ y ∈ r, leT x y) → Srt r → ∀ y ∈ r.dropWhile (fun y => y.k == x.k), x.k < y.k
  | [], _, _, y, hy => by simp at hy
  | z :: r, h1, h2, y, hy => by
    rw [List.dropWhile_cons] at hy
    by_cases hz : (z.k == x.k) = true
    · rw [if_pos hz] at hy
      exact rest_above (fun y hy => h1 y (by simp [hy])) (srt_cons.1 h2).2 y hy
    · rw [if_neg hz] at hy
      have hne : z.k ≠ x.k := by simpa using hz
      have hxz := h1 z (by simp)
      have hzy : z.k ≤ y.k := by
        rcases List.mem_cons.1 hy with rfl | hy
        · omega
        · have := (srt_cons.1 h2).1 y hy; unfold leT at this; omega
      unfold leT at hxz; omega
theorem run_same {x : It} : ∀ {r : List It}, ∀ y ∈ r.takeWhile (fun y => y.k == x.k), y.k = x.k
  | [], y, hy => by simp at hy
  | z :: r, y, hy => by
    rw [List.takeWhile_cons] at hy
    by_cases hz : (z.k == x.k) = true
    · rw [if_pos hz] at hy
      rcases List.mem_cons.1 hy with rfl | hy
      · simpa using hz
      · exact run_same y hy
    · rw [if_neg hz] at hy; simp at hy
theorem splitF_good {half : Int} : ∀ (n : Nat) (l : List It) (out : List (List It)) (cur : List It), l.length ≤ n → Grs half out cur l →
    ∃ o c, splitF half n l out cur = o ++ [c] ∧ Grs half o c [] ∧ o.flatten ++ c = out.flatten ++ cur ++ l ∧ (c = [] → l = [])
  | 0, l, out, cur, hn, h => by
    have : l = [] := List.eq_nil_of_length_eq_zero (by omega)
    subst this
    exact ⟨out, cur, rfl, h, by simp, fun _ => rfl⟩
  | n + 1, [], out, cur, hn, h => ⟨out, cur, rfl, h, by simp, fun _ => rfl⟩
  | n + 1, x :: r, out, cur, hn, h => by
    have hl : Srt (x :: r) := sub_srt h.srt (List.sublist_append_right _ _)
    have h2 := rest_above (srt_cons.1 hl).1 (srt_cons.1 hl).2
    have h1 : ∀ y ∈ x :: r.takeWhile (fun y => y.k == x.k), y.k = x.k := fun y hy => by
      rcases List.mem_cons.1 hy with rfl | hy
      · rfl
      · exact run_same y hy
    have he : x :: r = (x :: r.takeWhile (fun y => y.k == x.k)) ++ r.dropWhile (fun y => y.k == x.k) := by rw [List.cons_append, List.takeWhile_append_dropWhile]
    have hd : (r.dropWhile (fun y => y.k == x.k)).length ≤ n := by
      have := congrArg List.length he
      simp only [List.length_cons, List.length_append] at this hn; omega
    have hne : (x :: r.takeWhile (fun y => y.k == x.k)) ≠ [] := by simp
    have hs := h.srt
    have ha := h.ahead
    rw [he] at hs ha
    show ∃ o c, (if cur ≠ [] ∧ half < (cur.length : Int) + ((x :: r.takeWhile (fun y => y.k == x.k)).length : Nat) then splitF half n (r.dropWhile (fun y => y.k == x.k)) (out ++ [cur]) (x :: r.takeWhile (fun y => y.k == x.k)) else splitF half n (r.dropWhile (fun y => y.k == x.k)) out (cur ++ (x :: r.takeWhile (fun y => y.k == x.k)))) = o ++ [c] ∧ _
    rw [he]
    generalize (x :: r.takeWhile (fun y => y.k == x.k)) = run at *
    generalize r.dropWhile (fun y => y.k == x.k) = rest at *
    have hrun : ∀ a ∈ out.flatten ++ cur, ∀ y ∈ run, a.k < y.k := fun a ha' y hy => ha a ha' y (List.mem_append_left _ hy)
    have hrest : ∀ a ∈ out.flatten ++ cur, ∀ y ∈ rest, a.k < y.k := fun a ha' y hy => ha a ha' y (List.mem_append_right _ hy)
    have hrr : ∀ a ∈ run, ∀ y ∈ rest, a.k < y.k := fun a ha' y hy => by rw [h1 a ha']; exact h2 y hy
    by_cases hc : cur ≠ [] ∧ half < (cur.length : Int) + (run.length : Nat)
    · rw [if_pos hc]
      have hG : Grs half (out ++ [cur]) run rest := by
        refine ⟨by simpa [List.append_assoc] using hs, ?_, fun e => absurd e hne, ?_, ?_, ?_⟩
        · intro g hg
          rcases List.mem_append.1 hg with hg | hg
          · exact h.full g hg
          · rw [List.mem_singleton.1 hg]; exact hc.1
        · rw [List.pairwise_append]
          refine ⟨h.apart, by simp, fun a ha' b hb => ?_⟩
          rw [List.mem_singleton.1 hb]
          intro p hp q hq
          refine hrun p ?_ q hq
          rcases List.mem_append.1 ha' with hg | hg
          · exact List.mem_append_left _ (List.mem_flatten.2 ⟨a, hg, hp⟩)
          · rw [List.mem_singleton.1 hg] at hp; exact List.mem_append_right _ hp
        · intro p hp q hq
          rcases List.mem_append.1 hp with hp | hp
          · exact hrest p (by simpa using hp) q hq
          · exact hrr p hp q hq
        · intro g hg hh
          rcases List.mem_append.1 hg with hg | hg
          · exact h.small g hg hh
          · rw [List.mem_singleton.1 hg]; intro p hp q hq; rw [h1 p hp, h1 q hq]
      obtain ⟨o, c, e1, e2, e3, e4⟩ := splitF_good n rest (out ++ [cur]) run hd hG
      refine ⟨o, c, e1, e2, by rw [e3]; simp [List.append_assoc], fun e => ?_⟩
      have := e2.cur0 e
      rw [this, e] at e3
      simp at e3
      exact absurd e3.2.2.1 hne
    · rw [if_neg hc]
      have hG : Grs half out (cur ++ run) rest := by
        refine ⟨by simpa [List.append_assoc] using hs, h.full, fun e => absurd (List.append_eq_nil_iff.1 e).2 hne, ?_, ?_, ?_⟩
        · have := h.apart
          rw [List.pairwise_append] at this ⊢
          refine ⟨this.1, by simp, fun a ha' b hb => ?_⟩
          rw [List.mem_singleton.1 hb]
          intro p hp q hq
          rcases List.mem_append.1 hq with hq | hq
          · exact this.2.2 a ha' cur (by simp) p hp q hq
          · exact hrun p (List.mem_append_left _ (List.mem_flatten.2 ⟨a, ha', hp⟩)) q hq
        · intro p hp q hq
          rw [← List.append_assoc] at hp
          rcases List.mem_append.1 hp with hp | hp
          · exact hrest p hp q hq
          · exact hrr p hp q hq
        · intro g hg hh
          rcases List.mem_append.1 hg with hg | hg
          · exact h.small g (List.mem_append_left _ hg) hh
          · rw [List.mem_singleton.1 hg] at hh ⊢
            by_cases e0 : cur = []
            · subst e0; intro p hp q hq; simp at hp hq; rw [h1 p hp, h1 q hq]
            · exfalso; apply hc; refine ⟨e0, ?_⟩; rw [List.length_append] at hh; omega
      obtain ⟨o, c, e1, e2, e3, e4⟩ := splitF_good n rest out (cur ++ run) hd hG
      refine ⟨o, c, e1, e2, by rw [e3]; simp [List.append_assoc], fun e => ?_⟩
      have := e2.cur0 e
      rw [this, e] at e3
      simp at e3
      exact absurd e3.2.2.1 hne
/-- The groups of items in order. -/
theorem split_good {s : List It} (cells : Int) (h : Srt s) : ∃ o c, splitT s cells = o ++ [c] ∧ Grs (halfOf cells) o c [] ∧ o.flatten ++ c = s ∧ (c = [] → s = []) := by
  obtain ⟨o, c, e1, e2, e3, e4⟩ := splitF_good (half := halfOf cells) s.length s [] [] (Nat.le_refl _) ⟨by simpa using h, by simp, by simp, by simp, by simp, by simp⟩
  exact ⟨o, c, e1, e2, by simpa using e3, e4⟩
theorem split_flat {s : List It} (cells : Int) (h : Srt s) : (splitT s cells).flatten = s := by
  obtain ⟨o, c, e, -, h2, -⟩ := split_good cells h; rw [e, ← h2]; simp
theorem split_pos {s : List It} (cells : Int) (h : Srt s) : 1 ≤ (splitT s cells).length := by
  obtain ⟨o, c, e, -⟩ := split_good cells h; rw [e]; simp
theorem split_full {s : List It} (cells : Int) (h : Srt s) (hs : s ≠ []) : ∀ g ∈ splitT s cells, g ≠ [] := by
  obtain ⟨o, c, e, hg, -, h2⟩ := split_good cells h
  rw [e]; intro g hm
  rcases List.mem_append.1 hm with hm | hm
  · exact hg.full g hm
  · rw [List.mem_singleton.1 hm]; exact fun e => hs (h2 e)
theorem split_apart {s : List It} (cells : Int) (h : Srt s) : (splitT s cells).Pairwise fun a b => ∀ x ∈ a, ∀ y ∈ b, x.k < y.k := by
  obtain ⟨o, c, e, hg, -⟩ := split_good cells h; rw [e]; exact hg.apart
theorem split_small {s : List It} (cells : Int) (h : Srt s) : ∀ g ∈ splitT s cells, halfOf cells < (g.length : Int) → ∀ x ∈ g, ∀ y ∈ g, x.k = y.k := by
  obtain ⟨o, c, e, hg, -⟩ := split_good cells h; rw [e]; exact hg.small
/-- With at most m items of each key no group has more than m and half the cells. -/
theorem split_few {s : List It} (cells : Int) (h : Srt s) {m : Nat} (hm : ∀ κ, s.countP (fun x => x.k == κ) ≤ m) : ∀ g ∈ splitT s cells, (g.length : Int) ≤ halfOf cells ∨ g.length ≤ m := by
  intro g hg
  by_cases hh : halfOf cells < (g.length : Int)
  · right
    cases hgc : g with
    | nil => simp
    | cons x g' =>
      have hsm := split_small cells h g hg hh
      have hsub : g.Sublist s := by
        have h1 : g.Sublist (splitT s cells).flatten := List.sublist_flatten_of_mem hg
        rwa [split_flat cells h] at h1
      have h2 : g.countP (fun y => y.k == x.k) = g.length := by
        rw [List.countP_eq_length]; intro y hy; simpa using hsm y hy x (by rw [hgc]; simp)
      have h3 := hsub.countP_le (p := fun y => y.k == x.k)
      have h4 := hm x.k
      rw [← hgc]; omega
  · left; omega
theorem split_next {s : List It} (cells : Int) (h : Srt s) {i j : Nat} {a b : List It} (hij : i < j) (ha : (splitT s cells)[i]? = some a) (hb : (splitT s cells)[j]? = some b) : ∀ x ∈ a, ∀ y ∈ b, x.k < y.k := by
  obtain ⟨h1, rfl⟩ := List.getElem?_eq_some_iff.1 ha
  obtain ⟨h2, rfl⟩ := List.getElem?_eq_some_iff.1 hb
  exact List.pairwise_iff_getElem.1 (split_apart cells h) i j h1 h2 hij
theorem halfOf_at {c : Int} (h1 : 2 ≤ c) (h2 : c ≤ 16) : halfOf c = c / 2 := by
  unfold halfOf
  have : max 2 (min c 16) = c := by omega
  rw [this]
theorem halfOf_bd (c : Int) : 1 ≤ halfOf c ∧ halfOf c ≤ 8 := by unfold halfOf; omega
/-- How far the groups have been walked: what lies ahead of number i. -/
theorem flat_step {G : List (List It)} {i : Nat} {g : List It} (hg : G[i]? = some g) : (G.take (i + 1)).flatten = (G.take i).flatten ++ g := by
  rw [List.take_add_one, hg]; simp
/-- Of items kept for few versions each group leaves a cell free. -/
theorem split_free (l : List It) (vs : List Int) (n : Nat) (hv : vs.length ≤ n) (h1 : 1 ≤ n) (h2 : n ≤ 14) : ∀ g ∈ splitT (keepT l vs) ((n : Int) + 2), g.length < n + 2 := by
  intro g hg
  have := split_few ((n : Int) + 2) (keepT_srt l vs) (m := vs.length + 1) (fun κ => keep_few l vs κ) g hg
  rw [halfOf_at (by omega) (by omega)] at this
  omega
theorem mins_zero (least : Int) {gs : List (List It)} (h : gs ≠ []) : (minsT least gs)[0]? = some least := by
  cases gs with
  | nil => exact absurd rfl h
  | cons g gs => rfl
theorem mins_succ (least : Int) {gs : List (List It)} {i : Nat} {g : List It} (h : gs[i + 1]? = some g) : (minsT least gs)[i + 1]? = some ((g.head?.map It.k).getD 0) := by
  cases gs with
  | nil => simp at h
  | cons a gs =>
    rw [List.getElem?_cons_succ] at h
    show (gs.map fun g => (g.head?.map It.k).getD 0)[i]? = _
    rw [List.getElem?_map, h]; rfl
/-- The groups' least keys rise, and each but the first is its group's first key. -/
theorem mins_rise {s : List It} (cells least : Int) (h : Srt s) (hl : ∀ x ∈ s, least ≤ x.k) {i : Nat} {a b : List It} {m : Int} (ha : (splitT s cells)[i]? = some a) (hb : (splitT s cells)[i + 1]? = some b) (hm : (minsT least (splitT s cells))[i]? = some m) :
    ∃ x y, a.head? = some x ∧ b.head? = some y ∧ (minsT least (splitT s cells))[i + 1]? = some y.k ∧ m < y.k := by
  have hs : s ≠ [] := fun e => by
    subst e
    have : (splitT ([] : List It) cells).length = 1 := rfl
    have := (List.getElem?_eq_some_iff.1 hb).1; omega
  have hfa := split_full cells h hs a (List.mem_of_getElem? ha)
  have hfb := split_full cells h hs b (List.mem_of_getElem? hb)
  obtain ⟨x, a', rfl⟩ := List.exists_cons_of_ne_nil hfa
  obtain ⟨y, b', rfl⟩ := List.exists_cons_of_ne_nil hfb
  have hxy := split_next cells h (Nat.lt_succ_self i) ha hb x (by simp) y (by simp)
  refine ⟨x, y, rfl, rfl, by rw [mins_succ least hb]; rfl, ?_⟩
  cases i with
  | zero =>
    rw [mins_zero least (fun e => by rw [e] at ha; simp at ha)] at hm
    obtain rfl := Option.some.inj hm
    have hx : x ∈ s := by
      rw [← split_flat cells h]
      exact List.mem_flatten.2 ⟨_, List.mem_of_getElem? ha, by simp⟩
    have := hl x hx; omega
  | succ i =>
    rw [mins_succ least ha] at hm
    obtain rfl := Option.some.inj hm
    exact hxy
end Go.Proofs.YtdnilnjlbobcmaaDoor.Mx
/- Groups, made key by key: functions of lists alone. -/

namespace Go.Proofs.YtdnilnjlbobcmaaDoor.Mx
set_option linter.unusedVariables false
set_option linter.unusedSimpArgs false
/-- A key's items. -/
def runK (l : List It) (κ : Int) : List It := l.filter (fun x => x.k == κ)
/-- A run goes into the group that is begun, or into a new one. -/
def stepG (half : Int) (oc : List (List It) × List It) (run : List It) : List (List It) × List It :=
  if oc.2 ≠ [] ∧ half < (oc.2.length : Int) + (run.length : Int) then (oc.1 ++ [oc.2], run) else (oc.1, oc.2 ++ run)
def foldG (half : Int) (L : List It) (ks : List Int) (oc : List (List It) × List It) : List (List It) × List It := ks.foldl (fun oc κ => stepG half oc (runK L κ)) oc
theorem run_take {x : It} : ∀ {r : List It}, (∀ y ∈ r, leT x y) → Srt r → r.filter (fun y => y.k == x.k) = r.takeWhile (fun y => y.k == x.k)
  | [], _, _ => rfl
  | z :: r, h1, h2 => by
    rw [List.takeWhile_cons]
    by_cases hz : (z.k == x.k) = true
    · rw [if_pos hz, List.filter_cons, if_pos hz, run_take (fun y hy => h1 y (by simp [hy])) (srt_cons.1 h2).2]
    · rw [if_neg hz, List.filter_eq_nil_iff]
      intro y hy
      have hd := rest_above h1 h2 y (by rw [List.dropWhile_cons, if_neg hz]; exact hy)
      simp; omega
theorem keys_head {x : It} {r : List It} (h : Srt (x :: r)) : keysT (x :: r) = x.k :: keysT (r.dropWhile (fun y => y.k == x.k)) := by
  have h1 := (srt_cons.1 h).1
  have h2 := (srt_cons.1 h).2
  have ha := rest_above h1 h2
  refine rise_eq (keysT_rise _) ?_ fun k => ?_
  · rw [List.pairwise_cons]
    refine ⟨fun k hk => ?_, keysT_rise _⟩
    obtain ⟨y, hy, rfl⟩ := mem_keysT.1 hk
    exact ha y hy
  · rw [mem_keysT, List.mem_cons, mem_keysT]
    constructor
    · rintro ⟨y, hy, rfl⟩
      by_cases hk : y.k = x.k
      · exact .inl hk
      · right
        refine ⟨y, ?_, rfl⟩
        rcases List.mem_cons.1 hy with rfl | hy
        · exact absurd rfl hk
        · rw [← List.takeWhile_append_dropWhile (p := fun y : It => y.k == x.k) (l := r)] at hy
          rcases List.mem_append.1 hy with hy | hy
          · exact absurd (run_same y hy) hk
          · exact hy
    · rintro (rfl | ⟨y, hy, rfl⟩)
      · exact ⟨x, by simp, rfl⟩
      · exact ⟨y, List.mem_cons_of_mem _ ((List.dropWhile_sublist _).subset hy), rfl⟩
theorem runK_head {x : It} {r : List It} (h : Srt (x :: r)) : runK (x :: r) x.k = x :: r.takeWhile (fun y => y.k == x.k) := by
  unfold runK
  rw [List.filter_cons_of_pos (by simp), run_take (srt_cons.1 h).1 (srt_cons.1 h).2]
theorem runK_rest {x : It} {r : List It} (h : Srt (x :: r)) {κ : Int} (hk : κ ≠ x.k) : runK (x :: r) κ = runK (r.dropWhile (fun y => y.k == x.k)) κ := by
  unfold runK
  rw [List.filter_cons_of_neg (by simp; exact fun e => hk e.symm)]
  have e : r.filter (fun x => x.k == κ) = ((r.takeWhile (fun y : It => y.k == x.k)) ++ (r.dropWhile (fun y : It => y.k == x.k))).filter (fun x => x.k == κ) := by rw [List.takeWhile_append_dropWhile]
  rw [e, List.filter_append, List.filter_eq_nil_iff.2, List.nil_append]
  intro y hy
  have := run_same y hy
  simp; omega
theorem splitF_fold {half : Int} {L : List It} : ∀ (n : Nat) (l : List It) (out : List (List It)) (cur : List It), l.length ≤ n → Srt l → (∀ κ ∈ keysT l, runK L κ = runK l κ) →
    splitF half n l out cur = (foldG half L (keysT l) (out, cur)).1 ++ [(foldG half L (keysT l) (out, cur)).2]
  | 0, l, out, cur, hn, h, _ => by
    have : l = [] := List.eq_nil_of_length_eq_zero (by omega)
    subst this; rfl
  | n + 1, [], out, cur, hn, h, _ => rfl
  | n + 1, x :: r, out, cur, hn, h, hL => by
    have h2 := (srt_cons.1 h).2
    have ha := rest_above (srt_cons.1 h).1 h2
    have hs := sub_srt h2 (List.dropWhile_sublist (fun y : It => y.k == x.k))
    have hlen : (r.dropWhile (fun y : It => y.k == x.k)).length ≤ n := by
      have := (List.dropWhile_sublist (fun y : It => y.k == x.k) (l := r)).length_le
      simp only [List.length_cons] at hn; omega
    have hk := keys_head h
    have h1 := hL x.k (by rw [hk]; simp)
    rw [runK_head h] at h1
    have hL' : ∀ κ ∈ keysT (r.dropWhile (fun y : It => y.k == x.k)), runK L κ = runK (r.dropWhile (fun y : It => y.k == x.k)) κ := by
      intro κ hκ
      rw [hL κ (by rw [hk]; exact List.mem_cons_of_mem _ hκ)]
      obtain ⟨y, hy, rfl⟩ := mem_keysT.1 hκ
      exact runK_rest h (fun e => by have := ha y hy; omega)
    show (if cur ≠ [] ∧ half < (cur.length : Int) + ((x :: r.takeWhile (fun y => y.k == x.k)).length : Nat) then splitF half n (r.dropWhile (fun y => y.k == x.k)) (out ++ [cur]) (x :: r.takeWhile (fun y => y.k == x.k)) else splitF half n (r.dropWhile (fun y => y.k == x.k)) out (cur ++ (x :: r.takeWhile (fun y => y.k == x.k)))) = _
    rw [hk]
    unfold foldG
    rw [List.foldl_cons, h1]
    unfold stepG
    by_cases hc : cur ≠ [] ∧ half < (cur.length : Int) + ((x :: r.takeWhile (fun y => y.k == x.k)).length : Int)
    · rw [if_pos hc, if_pos hc]
      exact splitF_fold n _ _ _ hlen hs hL'
    · rw [if_neg hc, if_neg hc]
      exact splitF_fold n _ _ _ hlen hs hL'
theorem splitT_fold {s : List It} (cells : Int) (h : Srt s) : splitT s cells = (foldG (halfOf cells) s (keysT s) ([], [])).1 ++ [(foldG (halfOf cells) s (keysT s) ([], [])).2] :=
  splitF_fold s.length s [] [] (Nat.le_refl _) h (fun _ _ => rfl)
theorem foldG_step {half : Int} {L : List It} {ks : List Int} {i : Nat} {κ : Int} (h : ks[i]? = some κ) (oc : List (List It) × List It) : foldG half L (ks.take (i + 1)) oc = stepG half (foldG half L (ks.take i) oc) (runK L κ) := by
  unfold foldG
  rw [List.take_add_one, h, Option.toList_some, List.foldl_append]; rfl
theorem stepG_new {half : Int} {out : List (List It)} {cur run : List It} (h1 : cur ≠ []) (h2 : half < (cur.length : Int) + (run.length : Int)) : stepG half (out, cur) run = (out ++ [cur], run) := by
  unfold stepG; rw [if_pos ⟨h1, h2⟩]
theorem stepG_old {half : Int} {out : List (List It)} {cur run : List It} (h : ¬ (cur ≠ [] ∧ half < (cur.length : Int) + (run.length : Int))) : stepG half (out, cur) run = (out, cur ++ run) := by
  unfold stepG; rw [if_neg h]
/-- However far it has come, the groups hold no more items than the keys that were taken have. -/
theorem foldG_len {half : Int} {L : List It} : ∀ (ks : List Int) (oc : List (List It) × List It), (foldG half L ks oc).1.length ≤ oc.1.length + ks.length
  | [], oc => Nat.le_refl _
  | κ :: ks, oc => by
    unfold foldG
    rw [List.foldl_cons]
    have := foldG_len (half := half) (L := L) ks (stepG half oc (runK L κ))
    unfold foldG at this
    refine Nat.le_trans this ?_
    unfold stepG
    split <;> simp <;> omega
theorem foldG_cur {half : Int} {L : List It} : ∀ (ks : List Int) (oc : List (List It) × List It), (foldG half L ks oc).2.length ≤ oc.2.length + (ks.map fun κ => (runK L κ).length).sum
  | [], oc => by simp [foldG]
  | κ :: ks, oc => by
    unfold foldG
    rw [List.foldl_cons]
    have := foldG_cur (half := half) (L := L) ks (stepG half oc (runK L κ))
    unfold foldG at this
    refine Nat.le_trans this ?_
    unfold stepG
    split <;> simp <;> omega
theorem runK_len (l : List It) (κ : Int) : (runK l κ).length ≤ l.length := List.length_filter_le _ _
theorem runK_ne {l : List It} {κ : Int} (h : κ ∈ keysT l) : runK l κ ≠ [] := by
  obtain ⟨x, hx, rfl⟩ := mem_keysT.1 h
  intro e
  have : x ∈ runK l x.k := List.mem_filter.2 ⟨hx, by simp⟩
  rw [e] at this; simp at this
theorem keysT_len (l : List It) : (keysT l).length ≤ l.length := by
  have h1 : (keysT l).Nodup := (keysT_rise l).imp (fun h e => by omega)
  have h2 : ∀ k ∈ keysT l, k ∈ l.map It.k := fun k hk => by
    obtain ⟨x, hx, rfl⟩ := mem_keysT.1 hk
    exact List.mem_map.2 ⟨x, hx, rfl⟩
  have : ∀ (a b : List Int), a.Nodup → (∀ x ∈ a, x ∈ b) → a.length ≤ b.length := by
    intro a
    induction a with
    | nil => intro b _ _; exact Nat.zero_le _
    | cons x a ih =>
      intro b h hs
      have hx := hs x (by simp)
      have hn := List.nodup_cons.1 h
      have h1 := ih (b.erase x) hn.2 (fun y hy => (List.mem_erase_of_ne (fun e => hn.1 (by rw [← e]; exact hy))).2 (hs y (by simp [hy])))
      rw [List.length_erase_of_mem hx] at h1
      have := List.length_pos_of_mem hx
      rw [List.length_cons]; omega
  have := this _ _ h1 h2
  rwa [List.length_map] at this
end Go.Proofs.YtdnilnjlbobcmaaDoor.Mx
/- 'append' to a row of the call's own: and in which block the row lies behind it. -/

namespace Go.Proofs.YtdnilnjlbobcmaaDoor.Mx
open Go.RowKit Go.Proofs.YtdnilnjlbobcmaaDoor.Ar
set_option linter.unusedVariables false
set_option linter.unusedSimpArgs false
section
variable {α : Type} {f : α → List Value} {sz : Nat}
/-- 'append(s, x...)': s of the call's own, or none; where it lies then. -/
theorem wpList_appSqB {P : Program} {w : World} {ops : Array Oper} {rest : List Oper} {o : Oper} {a : Act} {Q : Exit → Act → World → Prop} (hL : Lays f sz) (hgd : o.guard = none) (s x : Operand) (t : TypeId)
    (ho : o.op = .call { callee := .builtin .append, args := #[s, x], argTypes := #[t, t] }) {E : TypeId} {z : Value} {bytes : Nat} (ht : P.underlying t = some (.slice E)) (hi : (P.info? E).map (fun i => (i.zero, i.size, i.bytes)) = some (some z, sz, bytes)) (hzs : z.cells.size = sz)
    {B : Nat} (v : Value) (os : List α) (hs : a.eval s = v) (hown : w.ownsRow B E sz v os.length (os.flatMap f)) (xv : Value) (ps : List α) (hx : a.eval x = xv) (hp : Sq f w xv ps)
    (hl : os.length + ps.length ≤ 1000000) (hb : bytes ≤ 1000) (hbase : B ≤ w.heap.size)
    (h : ∀ a' c' w', w'.ownsRow B E sz (.slice a' (os ++ ps).length c') (os ++ ps).length ((os ++ ps).flatMap f) → Fr v.ownBlock.toList w w' → (∀ g, g ∈ (Value.slice a' (os ++ ps).length c').ownBlock.toList → g ∈ v.ownBlock.toList ∨ g = w.heap.size) → wpList P ops Q rest (a.put o.dst (.slice a' (os ++ ps).length c')) w') : wpList P ops Q (o :: rest) a w := by
  obtain ⟨ad, cap, rfl, hcap, hm, hc⟩ := hp
  obtain ⟨i, hi0, hz, hs0, hb0⟩ := info_parts hi
  have hbytes : (os.length + ps.length) * bytes ≤ 140737488355328 := Nat.le_trans (Nat.mul_le_mul hl hb) (by decide)
  have go : ∀ (ad : Addr), (∀ j u, (ps.flatMap f)[j]? = some u → w.cell? (ad.add j) = some u) → a.eval x = .slice (some ad) ps.length cap → wpList P ops Q (o :: rest) a w := by
    intro ad hcell hx
    refine wpList_append_own_at w hgd s x t ho B E i _ sz bytes ht hi0 hz hs0 hb0 hzs hL.pos v os.length _ hs hown ad ps.length cap (ps.flatMap f) hx (hL.flat ps) hcell (hL.ones ps) (by unfold maxLen; omega) hbytes hbase fun v' w' h2 h3 _ h5 => ?_
    rw [← List.flatMap_append, ← List.length_append] at h2
    obtain ⟨a', c', rfl, -, -⟩ := row_cell h2
    exact h a' c' w' h2 (fr_grown h3) (fun g hg => by
      rcases h5 with h5 | h5
      · rw [h5] at hg; exact .inl hg
      · rw [h5] at hg; simp at hg; exact .inr hg)
  have hnil : ps.length = 0 → wpList P ops Q (o :: rest) a w := by
    intro h0
    obtain rfl : ps = [] := List.eq_nil_of_length_eq_zero h0
    cases ad with
    | some ad => exact go ad (fun j u hu => by simp at hu) hx
    | none =>
      have hown' := hown
      obtain ⟨hxl, hv⟩ := hown
      have hle : ∃ b0 c0, v = .slice b0 os.length c0 ∧ os.length ≤ c0 := by
        rcases hv with ⟨rfl, e0⟩ | ⟨g, c0, cur, rfl, -, -, h1, -⟩
        · have hx0 : os.length = 0 := by first | exact e0 | omega
          exact ⟨none, 0, by rw [hx0], by omega⟩
        · exact ⟨_, c0, rfl, by first | exact h1 | omega⟩
      obtain ⟨b0, c0, rfl, hle⟩ := hle
      refine wpList_plain hgd fun K hK => ?_
      have hr := run_append_nothing (P := P) w t t o.type E i ht hi0 b0 os.length c0 hle (.slice none 0 cap) (by rw [hs0]; exact Src.ofNil w ht cap)
      unfold Oper.wp execOp
      have hx' : a.eval x = .slice none 0 cap := hx
      simp only [ho, resolve, invoke, builtin, Sem.run_bind, Sem.run_pure, Result.andThen_ok, List.map_toArray, List.map_cons, List.map_nil, hs, hx', hr]
      have h' := h b0 c0 w
      rw [List.append_nil] at h'
      exact hK _ _ (h' hown' (Fr.refl _ _) (fun g hg => .inl hg))
  rcases hc with h0 | ⟨g, off, rfl, -, hcell⟩
  · exact hnil h0
  · exact go ⟨g, off, none⟩ (fun j u hu => by rw [addr_add]; exact hcell j u hu) hx
end
end Go.Proofs.YtdnilnjlbobcmaaDoor.Mx
/- The reference's Keep (layer 8). -/

namespace Go.Proofs.YtdnilnjlbobcmaaDoor.Mx
open Go.RowKit Go.Proofs.YtdnilnjlbobcmaaDoor.Ar
set_option linter.unusedVariables false
set_option linter.unusedSimpArgs false
/-- Where Keep stands: i looked at, out of them kept. -/
def KepAt (w : World) (s : List It) (vs : List Int) (u x : Value) (wr : World) : Prop := ∃ i out, i ≤ s.length ∧ x = .int .i64 (i : Nat) ∧ out.length ≤ i ∧ wr.ownsRow w.heap.size 43 3 u out.length (out.flatMap fT) ∧ Fr [] w wr ∧ out ++ keepS vs (s.drop i) = keepS vs s
/-- Where the versions stand: k looked at. -/
def KpvAt (wr : World) (vs : List Int) (last : Bool) (P : Int → Bool) (u x : Value) (w' : World) : Prop := ∃ k, k ≤ vs.length ∧ x = .int .i64 (k : Nat) ∧ u = .bool (last || (vs.take k).any P) ∧ Fr [] wr w'
theorem any_more {P : Int → Bool} {vs : List Int} {k : Nat} {z : Int} (hz : vs[k]? = some z) : (vs.take (k + 1)).any P = ((vs.take k).any P || P z) := by
  rw [List.take_add_one, hz, Option.toList_some, List.any_append]; simp
theorem keepS_at {vs : List Int} {s : List It} {i : Nat} {x : It} (hx : s[i]? = some x) : keepS vs (s.drop i) = if keepsB x s[i + 1]? vs = true then x :: keepS vs (s.drop (i + 1)) else keepS vs (s.drop (i + 1)) := by
  obtain ⟨hi, rfl⟩ := List.getElem?_eq_some_iff.1 hx
  rw [List.drop_eq_getElem_cons hi]
  show (if keepsB _ (s.drop (i + 1)).head? vs = true then _ else _) = _
  rw [List.head?_drop]
set_option maxRecDepth 100000 in
set_option maxHeartbeats 6400000 in
theorem keep_any (l : List It) (vs : List Int) (v u : Value) (w : World) (hl : l.length ≤ 1000) (hvl : vs.length ≤ 1000) (h : Sq fT w v l) (hv : Sq fI w u vs) :
    Calls Tryd.prog 20 #[v, u] w fun e w' => (∃ r, e = .returned r ∧ w'.ownsRow w.heap.size 43 3 r (keepT l vs).length ((keepT l vs).flatMap fT)) ∧ Fr [] w w' := by
  unfold keepT
  obtain ⟨av, cv, rfl, hcv, hmv, -⟩ := id hv
  go_enter Tryd.func20, Tryd.ntmps20
  go_wp2_with fail
  refine (sort_any l v w hl h).mono ?_; rintro e w1 ⟨⟨u1, rfl, r1⟩, F1⟩
  have hs1 : (sortT l).length ≤ 1000 := by rw [sortT_length]; exact hl
  generalize hso : sortT l = s at *
  have HSO := Lib.hid hso
  clear hso
  obtain ⟨asl, csl, rfl, hcs, hms, -⟩ := id (Sq.own (f := fT) r1)
  have S1 := Sq.own (f := fT) r1
  have hv1 := hv.up F1
  have HF1 := Lib.hid F1
  clear r1 h hv F1
  go_wp2_with fail
  go_loopw [6, 7] (KepAt w1 s vs) (fun _ x _ => s.length - (intOf x).toNat)
  case atStart => exact ⟨0, [], by omega, rfl, by simp, ⟨rfl, .inl ⟨rfl, rfl⟩⟩, Fr.refl _ _, by simp⟩
  case round =>
    obtain ⟨i, out, hi, rfl, ho, hr, F, hk⟩ := hrel
    by_cases hlt : i < s.length
    · obtain ⟨x, hx⟩ : ∃ x, s[i]? = some x := ⟨s[i], List.getElem?_eq_getElem hlt⟩
      have hS := S1.up F
      obtain ⟨gs, os, rfl, x0, x1, x2⟩ := it_cells hS hx
      rw [keepS_at hx] at hk
      obtain ⟨ao, co, rfl, hco, hcm, -⟩ := id (Sq.own (f := fT) hr)
      have HK := Lib.hid hk
      clear hk
      by_cases hE : i + 1 = s.length
      · have hn : s[i + 1]? = none := List.getElem?_eq_none (by omega)
        have hkb : keepsB x s[i + 1]? vs = true := by rw [hn]; simp [keepsB]
        have HKB := Lib.hid hkb
        have g1 : (((i : Nat) : Int) + 1 == ((s.length : Nat) : Int)) = true := by simp; omega
        clear hkb hn
        go_wp2_with fail
        have k0 := In.cell x0
        skip
        refine wp_region_in (by kernel_rfl) (by kernel_rfl) ?_
        repeat (go_big_quiet_step (fail))
        refine wpQuiet_nil ?_
        intro w5 F5
        clear k0 
        go_wp2_with fail
        have HFF := Lib.hid (F.trans F5)
        have r5 := Lib.hid (row_keeps hr F5)
        have x0 := F5.cell x0 (by simp)
        have x1 := F5.cell x1 (by simp)
        have x2 := F5.cell x2 (by simp)
        skip
        have HV5 := Lib.hid (hv1.up HFF.out)
        go_loopw [9, 10] (KpvAt w5 vs true (fun _ => false)) (fun _ x _ => vs.length - (intOf x).toNat)
        case atStart => exact ⟨0, Nat.zero_le _, rfl, by simp, Fr.refl _ _⟩
        case round =>
          obtain ⟨k, hk, rfl, hu, F6⟩ := hrel
          by_cases hkl : k < vs.length
          · obtain ⟨z, hz⟩ : ∃ z, vs[k]? = some z := ⟨vs[k], List.getElem?_eq_getElem hkl⟩
            have hmore := any_more (P := (fun _ => false)) hz
            have HM := Lib.hid hmore
            clear hmore
            have HF6 := Lib.hid F6
            have hu' := hu.trans (show _ = Value.bool true by simp)
            subst hu'
            clear hu
            clear F6
            go_wp2_with fail
            refine wp_region_in (by kernel_rfl) (by kernel_rfl) ?_
            repeat (go_big_quiet_step (fail))
            refine wpQuiet_nil ?_
            intro w7 F7
            go_wp2_with fail
            go_roundw
            case rel => exact ⟨k + 1, by omega, by go_num, by simp, HF6.out.trans F7⟩
            case measure => simp [intOf]; omega
          · obtain rfl : k = vs.length := by omega
            rw [List.take_length] at hu
            have hu' := hu.trans (show _ = Value.bool true by simp)
            subst hu'
            clear hu
            have x0 := F6.cell x0 (by simp)
            have x1 := F6.cell x1 (by simp)
            have x2 := F6.cell x2 (by simp)
            have HFG := Lib.hid (HFF.out.trans F6)
            have r6 := row_keeps r5.out F6
            have F12 := (Fr.refl [] wr).alloc (.cells #[.int .i64 x.k, .int .i64 x.v, .int .i64 x.d] 43)
            have B12 := Go.heap_alloc_new wr (.cells #[.int .i64 x.k, .int .i64 x.v, .int .i64 x.d] 43)
            have r12 := row_keeps r6 F12
            have HG := Lib.hid (HFG.out.trans F12)
            clear r6 F12 F6
            go_wp2_with (at_builtin; refine wpList_appSq fT_lays rfl _ _ 22 rfl Tryd.underlying22 itI rfl (B := w1.heap.size) _ out rfl r12 _ [x] rfl (Sq.block B12 rfl rfl (Nat.le_refl _) (by simp [maxLen])) (by simp; omega) (by decide) HG.out.size ?_; intro a21 c21 w21 r21 f21)
            have HR := Lib.hid (show w21.ownsRow w1.heap.size 43 3 (.slice a21 (out.length + 1) c21) (out ++ [x]).length ((out ++ [x]).flatMap fT) by rw [show (Value.slice a21 (out ++ [x]).length c21) = Value.slice a21 (out.length + 1) c21 by simp] at r21; exact r21)
            have HG2 := Lib.hid (HG.out.own f21 (row_base r12))
            clear r21 f21 r12 B12
            go_wp2_with fail
            go_roundw
            case rel => exact ⟨i + 1, out ++ [x], by omega, by go_num, by simp; omega, HR.out, HG2.out, by rw [← HK.out, HKB.out]; simp⟩
            case measure => simp [intOf]; omega
      · obtain ⟨y, hy⟩ : ∃ y, s[i + 1]? = some y := ⟨s[i + 1], List.getElem?_eq_getElem (by omega)⟩
        obtain ⟨gs', os', hgs, y0, y1, -⟩ := it_cells hS hy
        simp only [Option.some.injEq, Addr.mk.injEq] at hgs
        obtain ⟨rfl, rfl, -⟩ := hgs
        by_cases hD : ¬ y.k = x.k
        · have hkb : keepsB x s[i + 1]? vs = true := by rw [hy]; simp [keepsB, hD]
          have g2 : (y.k == x.k) = false := by simpa using hD
          have g3 : (y.k != x.k) = true := by simpa using hD
          have HKB := Lib.hid hkb
          have HD := Lib.hid hD
          have g1 : (((i : Nat) : Int) + 1 == ((s.length : Nat) : Int)) = false := by simp; omega
          clear hkb hD
          go_wp2_with fail
          have k0 := In.cell x0
          have j0 := In.cell y0
          refine wp_region_in (by kernel_rfl) (by kernel_rfl) ?_
          repeat (go_big_quiet_step (fail))
          refine wpQuiet_nil ?_
          intro w5 F5
          clear k0 j0
          go_wp2_with fail
          have HFF := Lib.hid (F.trans F5)
          have r5 := Lib.hid (row_keeps hr F5)
          have x0 := F5.cell x0 (by simp)
          have x1 := F5.cell x1 (by simp)
          have x2 := F5.cell x2 (by simp)
          have y1 := F5.cell y1 (by simp)
          have HV5 := Lib.hid (hv1.up HFF.out)
          go_loopw [9, 10] (KpvAt w5 vs true (fun _ => false)) (fun _ x _ => vs.length - (intOf x).toNat)
          case atStart => exact ⟨0, Nat.zero_le _, rfl, by simp, Fr.refl _ _⟩
          case round =>
            obtain ⟨k, hk, rfl, hu, F6⟩ := hrel
            by_cases hkl : k < vs.length
            · obtain ⟨z, hz⟩ : ∃ z, vs[k]? = some z := ⟨vs[k], List.getElem?_eq_getElem hkl⟩
              have hmore := any_more (P := (fun _ => false)) hz
              have HM := Lib.hid hmore
              clear hmore
              have HF6 := Lib.hid F6
              have hu' := hu.trans (show _ = Value.bool true by simp)
              subst hu'
              clear hu
              clear F6
              go_wp2_with fail
              refine wp_region_in (by kernel_rfl) (by kernel_rfl) ?_
              repeat (go_big_quiet_step (fail))
              refine wpQuiet_nil ?_
              intro w7 F7
              go_wp2_with fail
              go_roundw
              case rel => exact ⟨k + 1, by omega, by go_num, by simp, HF6.out.trans F7⟩
              case measure => simp [intOf]; omega
            · obtain rfl : k = vs.length := by omega
              rw [List.take_length] at hu
              have hu' := hu.trans (show _ = Value.bool true by simp)
              subst hu'
              clear hu
              have x0 := F6.cell x0 (by simp)
              have x1 := F6.cell x1 (by simp)
              have x2 := F6.cell x2 (by simp)
              have HFG := Lib.hid (HFF.out.trans F6)
              have r6 := row_keeps r5.out F6
              have F12 := (Fr.refl [] wr).alloc (.cells #[.int .i64 x.k, .int .i64 x.v, .int .i64 x.d] 43)
              have B12 := Go.heap_alloc_new wr (.cells #[.int .i64 x.k, .int .i64 x.v, .int .i64 x.d] 43)
              have r12 := row_keeps r6 F12
              have HG := Lib.hid (HFG.out.trans F12)
              clear r6 F12 F6
              go_wp2_with (at_builtin; refine wpList_appSq fT_lays rfl _ _ 22 rfl Tryd.underlying22 itI rfl (B := w1.heap.size) _ out rfl r12 _ [x] rfl (Sq.block B12 rfl rfl (Nat.le_refl _) (by simp [maxLen])) (by simp; omega) (by decide) HG.out.size ?_; intro a21 c21 w21 r21 f21)
              have HR := Lib.hid (show w21.ownsRow w1.heap.size 43 3 (.slice a21 (out.length + 1) c21) (out ++ [x]).length ((out ++ [x]).flatMap fT) by rw [show (Value.slice a21 (out ++ [x]).length c21) = Value.slice a21 (out.length + 1) c21 by simp] at r21; exact r21)
              have HG2 := Lib.hid (HG.out.own f21 (row_base r12))
              clear r21 f21 r12 B12
              go_wp2_with fail
              go_roundw
              case rel => exact ⟨i + 1, out ++ [x], by omega, by go_num, by simp; omega, HR.out, HG2.out, by rw [← HK.out, HKB.out]; simp⟩
              case measure => simp [intOf]; omega
        · have hkb : keepsB x s[i + 1]? vs = vs.any (fun z => decide (x.v ≤ z) && decide (z < y.v)) := by rw [hy]; have hD := Classical.not_not.1 hD; simp [keepsB, hD]
          have g2 : (y.k == x.k) = true := by simpa using Classical.not_not.1 hD
          have g3 : (y.k != x.k) = false := by simpa using Classical.not_not.1 hD
          have HKB := Lib.hid hkb
          have HD := Lib.hid hD
          have g1 : (((i : Nat) : Int) + 1 == ((s.length : Nat) : Int)) = false := by simp; omega
          clear hkb hD
          go_wp2_with fail
          have k0 := In.cell x0
          have j0 := In.cell y0
          refine wp_region_in (by kernel_rfl) (by kernel_rfl) ?_
          repeat (go_big_quiet_step (fail))
          refine wpQuiet_nil ?_
          intro w5 F5
          clear k0 j0
          go_wp2_with fail
          have HFF := Lib.hid (F.trans F5)
          have r5 := Lib.hid (row_keeps hr F5)
          have x0 := F5.cell x0 (by simp)
          have x1 := F5.cell x1 (by simp)
          have x2 := F5.cell x2 (by simp)
          have y1 := F5.cell y1 (by simp)
          have HV5 := Lib.hid (hv1.up HFF.out)
          go_loopw [9, 10] (KpvAt w5 vs false (fun z => decide (x.v ≤ z) && decide (z < y.v))) (fun _ x _ => vs.length - (intOf x).toNat)
          case atStart => exact ⟨0, Nat.zero_le _, rfl, by simp, Fr.refl _ _⟩
          case round =>
            obtain ⟨k, hk, rfl, hu, F6⟩ := hrel
            by_cases hkl : k < vs.length
            · obtain ⟨z, hz⟩ : ∃ z, vs[k]? = some z := ⟨vs[k], List.getElem?_eq_getElem hkl⟩
              have hmore := any_more (P := (fun z => decide (x.v ≤ z) && decide (z < y.v))) hz
              have HM := Lib.hid hmore
              clear hmore
              have HF6 := Lib.hid F6
              by_cases hP : (vs.take k).any (fun z => decide (x.v ≤ z) && decide (z < y.v)) = true
              · have hu' := hu.trans (show _ = Value.bool true by rw [hP]; rfl)
                subst hu'
                clear hu
                have HP := Lib.hid hP
                clear hP F6
                go_wp2_with fail
                refine wp_region_in (by kernel_rfl) (by kernel_rfl) ?_
                repeat (go_big_quiet_step (fail))
                refine wpQuiet_nil ?_
                intro w7 F7
                go_wp2_with fail
                go_roundw
                case rel => exact ⟨k + 1, by omega, by go_num, by rw [HM.out, HP.out]; rfl, HF6.out.trans F7⟩
                case measure => simp [intOf]; omega
              · rw [Bool.not_eq_true] at hP
                have hu' := hu.trans (show _ = Value.bool false by rw [hP]; rfl)
                subst hu'
                clear hu
                have HP := Lib.hid hP
                clear hP
                have y1 := In.cell (F6.cell y1 (by simp))
                have x1 := In.cell (F6.cell x1 (by simp))
                obtain ⟨gv, ov, rfl, z0⟩ := int_cell (HV5.out.up F6) hz
                have z0 := In.cell z0
                clear F6
                by_cases ha : x.v ≤ z
                · have g5 : decide (x.v ≤ z) = true := by simpa using ha
                  have HA := Lib.hid ha
                  clear ha
                  by_cases hb : z < y.v
                  · have g6 : decide (y.v > z) = true := by simpa using hb
                    have HB := Lib.hid hb
                    clear hb
                    go_wp2_with fail
                    refine wp_region_in (by kernel_rfl) (by kernel_rfl) ?_
                    repeat (go_big_quiet_step (fail))
                    refine wpQuiet_nil ?_
                    intro w7 F7
                    go_wp2_with fail
                    go_roundw
                    case rel => exact ⟨k + 1, by omega, by go_num, by rw [HM.out, HP.out]; simp [HA.out, HB.out], HF6.out.trans F7⟩
                    case measure => simp [intOf]; omega
                  · have g6 : decide (y.v > z) = false := by simpa using hb
                    have HB := Lib.hid hb
                    clear hb
                    go_wp2_with fail
                    refine wp_region_in (by kernel_rfl) (by kernel_rfl) ?_
                    repeat (go_big_quiet_step (fail))
                    refine wpQuiet_nil ?_
                    intro w7 F7
                    go_wp2_with fail
                    go_roundw
                    case rel => exact ⟨k + 1, by omega, by go_num, by rw [HM.out, HP.out]; simp only [decide_eq_false (Int.not_lt.2 HB.out), Bool.and_false]; rfl, HF6.out.trans F7⟩
                    case measure => simp [intOf]; omega
                · have g5 : decide (x.v ≤ z) = false := by simpa using ha
                  have HA := Lib.hid ha
                  clear ha
                  go_wp2_with fail
                  refine wp_region_in (by kernel_rfl) (by kernel_rfl) ?_
                  repeat (go_big_quiet_step (fail))
                  refine wpQuiet_nil ?_
                  intro w7 F7
                  go_wp2_with fail
                  go_roundw
                  case rel => exact ⟨k + 1, by omega, by go_num, by rw [HM.out, HP.out]; simp only [decide_eq_false (Int.not_le.2 HA.out), Bool.false_and]; rfl, HF6.out.trans F7⟩
                  case measure => simp [intOf]; omega
            · obtain rfl : k = vs.length := by omega
              rw [List.take_length] at hu
              by_cases hq : vs.any (fun z => decide (x.v ≤ z) && decide (z < y.v)) = true
              · have hu' := hu.trans (show _ = Value.bool true by rw [hq]; rfl)
                subst hu'
                clear hu
                have HQ := Lib.hid hq
                clear hq
                have x0 := F6.cell x0 (by simp)
                have x1 := F6.cell x1 (by simp)
                have x2 := F6.cell x2 (by simp)
                have HFG := Lib.hid (HFF.out.trans F6)
                have r6 := row_keeps r5.out F6
                have F12 := (Fr.refl [] wr).alloc (.cells #[.int .i64 x.k, .int .i64 x.v, .int .i64 x.d] 43)
                have B12 := Go.heap_alloc_new wr (.cells #[.int .i64 x.k, .int .i64 x.v, .int .i64 x.d] 43)
                have r12 := row_keeps r6 F12
                have HG := Lib.hid (HFG.out.trans F12)
                clear r6 F12 F6
                go_wp2_with (at_builtin; refine wpList_appSq fT_lays rfl _ _ 22 rfl Tryd.underlying22 itI rfl (B := w1.heap.size) _ out rfl r12 _ [x] rfl (Sq.block B12 rfl rfl (Nat.le_refl _) (by simp [maxLen])) (by simp; omega) (by decide) HG.out.size ?_; intro a21 c21 w21 r21 f21)
                have HR := Lib.hid (show w21.ownsRow w1.heap.size 43 3 (.slice a21 (out.length + 1) c21) (out ++ [x]).length ((out ++ [x]).flatMap fT) by rw [show (Value.slice a21 (out ++ [x]).length c21) = Value.slice a21 (out.length + 1) c21 by simp] at r21; exact r21)
                have HG2 := Lib.hid (HG.out.own f21 (row_base r12))
                clear r21 f21 r12 B12
                go_wp2_with fail
                go_roundw
                case rel => exact ⟨i + 1, out ++ [x], by omega, by go_num, by simp; omega, HR.out, HG2.out, by rw [← HK.out, HKB.out, HQ.out]; simp⟩
                case measure => simp [intOf]; omega
              · rw [Bool.not_eq_true] at hq
                have hu' := hu.trans (show _ = Value.bool false by rw [hq]; rfl)
                subst hu'
                clear hu
                have HQ := Lib.hid hq
                clear hq
                have HR := Lib.hid (row_keeps r5.out F6)
                have HG2 := Lib.hid (HFF.out.trans F6)
                clear F6
                go_wp2_with fail
                go_roundw
                case rel => exact ⟨i + 1, out, by omega, by go_num, by omega, HR.out, HG2.out, by rw [← HK.out, HKB.out, HQ.out]; simp⟩
                case measure => simp [intOf]; omega
    · obtain rfl : i = s.length := by omega
      rw [List.drop_length] at hk
      have hk' : out = keepS vs s := by rw [← hk]; simp [keepS]
      rw [hk'] at hr
      have HR := Lib.hid (row_more hr HF1.out.size)
      have HG := Lib.hid (HF1.out.trans F)
      obtain ⟨ao, co, rfl, -, -⟩ := row_cell hr
      clear hk' hk hr F
      go_wp2_with fail
      go_ret
      rw [HSO.out]
      exact ⟨⟨_, rfl, HR.out⟩, HG.out⟩
end Go.Proofs.YtdnilnjlbobcmaaDoor.Mx
/- Rows of rows of items; the reference's Mins (layer 9). -/

namespace Go.Proofs.YtdnilnjlbobcmaaDoor.Mx
open Go.RowKit Go.Proofs.YtdnilnjlbobcmaaDoor.Ar
set_option linter.unusedVariables false
set_option linter.unusedSimpArgs false
/-- A slice as a row's element. -/
structure Sv where
  a : Option Addr
  n : Nat
  c : Nat
def Sv.v (s : Sv) : Value := .slice s.a s.n s.c
def fS (s : Sv) : List Value := [s.v]
theorem fS_lays : Lays fS 1 := ⟨fun _ => rfl, fun x u hu => by rw [List.mem_singleton.1 hu]; rfl, by decide⟩
theorem svI : (Tryd.prog.info? 22).map (fun i => (i.zero, i.size, i.bytes)) = some (some (.slice none 0 0), 1, 24) := by kernel_rfl
/-- What the slices hold. -/
def Gs (w : World) (ss : List Sv) (gs : List (List It)) : Prop := ss.length = gs.length ∧ ∀ (i : Nat) (s : Sv) (g : List It), ss[i]? = some s → gs[i]? = some g → Sq fT w s.v g
theorem Gs.kept {S : List Nat} {w w' : World} {ss : List Sv} {gs : List (List It)} (h : Gs w ss gs) (k : Fr S w w') (hS : ∀ s, s ∈ ss → ∀ g, g ∈ s.v.ownBlock.toList → g ∉ S) : Gs w' ss gs :=
  ⟨h.1, fun i s g e1 e2 => (h.2 i s g e1 e2).kept k (hS s (List.mem_of_getElem? e1))⟩
theorem Gs.up {w w' : World} {ss : List Sv} {gs : List (List It)} (h : Gs w ss gs) (k : Fr [] w w') : Gs w' ss gs := h.kept k (by simp)
theorem Gs.snoc {w : World} {ss : List Sv} {gs : List (List It)} (h : Gs w ss gs) {s : Sv} {g : List It} (hs : Sq fT w s.v g) : Gs w (ss ++ [s]) (gs ++ [g]) := by
  refine ⟨by simp [h.1], fun i t k e1 e2 => ?_⟩
  by_cases hi : i < ss.length
  · rw [List.getElem?_append_left hi] at e1
    rw [List.getElem?_append_left (by rw [← h.1]; exact hi)] at e2
    exact h.2 i t k e1 e2
  · rw [List.getElem?_append_right (by omega)] at e1
    rw [List.getElem?_append_right (by rw [← h.1]; omega), ← h.1] at e2
    have h0 : i - ss.length = 0 := by have := (List.getElem?_eq_some_iff.1 e1).1; simp at this; omega
    rw [h0] at e1 e2
    simp at e1 e2
    subst e1 e2
    exact hs
theorem Gs.one {w : World} {ss : List Sv} {gs : List (List It)} (h : Gs w ss gs) {i : Nat} {g : List It} (hi : gs[i]? = some g) : ∃ s, ss[i]? = some s ∧ s.n = g.length ∧ Sq fT w s.v g := by
  have hlt := (List.getElem?_eq_some_iff.1 hi).1
  have e1 : ss[i]? = some (ss[i]'(by rw [h.1]; exact hlt)) := List.getElem?_eq_getElem _
  have hs := h.2 i _ g e1 hi
  refine ⟨_, e1, ?_, hs⟩
  obtain ⟨a', c', e, -⟩ := hs
  unfold Sv.v at e
  simp only [Value.slice.injEq] at e
  exact e.2.1
theorem sv_cell {w : World} {a : Option Addr} {n cap i : Nat} {xs : List Sv} {x : Sv} (h : Sq fS w (.slice a n cap) xs) (hi : xs[i]? = some x) :
    ∃ g off, a = some ⟨g, off, none⟩ ∧ w.cell? ⟨g, off + i, none⟩ = some (.slice x.a x.n x.c) := by
  obtain ⟨-, g, off, rfl, hc⟩ := Sq.cell fS_lays h hi
  exact ⟨g, off, rfl, by have := hc 0 x.v rfl; rw [Nat.mul_one, Nat.add_zero] at this; exact this⟩
theorem minsT_length (least : Int) (gs : List (List It)) : (minsT least gs).length = gs.length := by
  cases gs <;> simp [minsT]
theorem minsT_at (least : Int) {gs : List (List It)} {i : Nat} {g : List It} (hi : gs[i]? = some g) : (minsT least gs)[i]? = some (if i = 0 then least else (g.head?.map It.k).getD 0) := by
  cases gs with
  | nil => simp at hi
  | cons y r =>
    cases i with
    | zero => rfl
    | succ i =>
      rw [List.getElem?_cons_succ] at hi
      show (least :: r.map _)[i + 1]? = _
      rw [List.getElem?_cons_succ, List.getElem?_map, hi]; rfl
/-- Where Mins stands. -/
def MinAt (w : World) (ms : List Int) (u x : Value) (wr : World) : Prop := ∃ i, i ≤ ms.length ∧ x = .int .i64 (i : Nat) ∧ wr.ownsRow w.heap.size 3 1 u (ms.take i).length ((ms.take i).flatMap fI) ∧ Fr [] w wr
set_option maxRecDepth 100000 in
set_option maxHeartbeats 6400000 in
theorem mins_any (least : Int) (gs : List (List It)) (ss : List Sv) (u : Value) (w : World) (hl : gs.length ≤ 1000) (h : Sq fS w u ss) (hg : Gs w ss gs) :
    Calls Tryd.prog 15 #[.int .i64 least, u] w fun e w' => (∃ r, e = .returned r ∧ w'.ownsRow w.heap.size 3 1 r (minsT least gs).length ((minsT least gs).flatMap fI)) ∧ Fr [] w w' := by
  obtain ⟨av, cv, rfl, hcv, hmv, -⟩ := id h
  have hml := minsT_length least gs
  have hsl := hg.1
  rw [hsl] at h hcv ⊢
  have HAT := Lib.hid (fun i g => @minsT_at least gs i g)
  generalize hms : minsT least gs = ms at *
  have HMS := Lib.hid hms
  rw [← hml] at h hcv ⊢
  have hmk : ms.length ≤ 1000 := by omega
  have HML := Lib.hid hml
  clear hms hml hsl
  go_enter Tryd.func15, Tryd.ntmps15
  go_wp2_with fail
  go_loopw [5, 6] (MinAt w ms) (fun _ x _ => ms.length - (intOf x).toNat)
  case atStart => exact ⟨0, by omega, rfl, ⟨rfl, .inl ⟨rfl, rfl⟩⟩, Fr.refl _ _⟩
  case round =>
    obtain ⟨i, hi, rfl, hr, F⟩ := hrel
    by_cases hlt : i < ms.length
    · obtain ⟨g, hgi⟩ : ∃ g, gs[i]? = some g := ⟨gs[i]'(by have := HML.out; omega), List.getElem?_eq_getElem _⟩
      have hm := HAT.out i g hgi
      obtain ⟨s, hs1, hs2, hs3⟩ := (hg.up F).one hgi
      obtain ⟨gb, ob, rfl, c0⟩ := sv_cell (h.up F) hs1
      rw [hs2] at c0
      have hs3' : Sq fT wr (.slice s.a g.length s.c) g := by rw [← hs2]; exact hs3
      obtain ⟨ao, co, rfl, hco, hcm, -⟩ := id (Sq.own (f := fI) hr)
      have hlen : (ms.take i).length = i := by rw [List.length_take]; omega
      have hnx : ∀ m, ms[i]? = some m → ms.take (i + 1) = ms.take i ++ [m] := fun m hm => by rw [List.take_add_one, hm]; rfl
      generalize ms.take i = out at *
      have HL := Lib.hid hlen
      clear hlen hs3
      by_cases h0 : i = 0
      · subst h0
        rw [if_pos rfl] at hm
        have hm : ms[0]? = some (least) := hm
        have HNX := Lib.hid (hnx _ hm)
        have F12 := (Fr.refl [] wr).alloc (.cells #[.int .i64 (least)] 3)
        have B12 := Go.heap_alloc_new wr (.cells #[.int .i64 (least)] 3)
        have r12 := row_keeps hr F12
        have HG := Lib.hid (F.trans F12)
        clear F12 hnx hm
        go_wp2_with (at_builtin; refine wpList_appSq fI_lays rfl _ _ 32 rfl Tryd.underlying32 intI rfl (B := w.heap.size) _ out rfl r12 _ [least] rfl (Sq.block B12 rfl rfl (Nat.le_refl _) (by simp [maxLen])) (by have := HL.out; have := HML.out; simp; omega) (by decide) HG.out.size ?_; intro a21 c21 w21 r21 f21)
        have HR := Lib.hid (show w21.ownsRow w.heap.size 3 1 (.slice a21 (out.length + 1) c21) (out ++ [least]).length ((out ++ [least]).flatMap fI) by rw [show (Value.slice a21 (out ++ [least]).length c21) = Value.slice a21 (out.length + 1) c21 by simp] at r21; exact r21)
        have HG2 := Lib.hid (HG.out.own f21 (row_base r12))
        clear r21 f21 r12 B12
        go_wp2_with fail
        go_roundw
        case rel => exact ⟨0 + 1, by omega, by go_num, by rw [HNX.out]; exact HR.out, HG2.out⟩
        case measure => simp [intOf]; omega
      · rw [if_neg h0] at hm
        cases g with
        | nil =>
          have g1 : (((i : Nat) : Int) == 0) = false := by simp; omega
          have hm : ms[i]? = some ((0 : Int)) := hm
          have HNX := Lib.hid (hnx _ hm)
          have F12 := (Fr.refl [] wr).alloc (.cells #[.int .i64 ((0 : Int))] 3)
          have B12 := Go.heap_alloc_new wr (.cells #[.int .i64 ((0 : Int))] 3)
          have r12 := row_keeps hr F12
          have HG := Lib.hid (F.trans F12)
          clear F12 hnx hm
          go_wp2_with (at_builtin; refine wpList_appSq fI_lays rfl _ _ 32 rfl Tryd.underlying32 intI rfl (B := w.heap.size) _ out rfl r12 _ [(0 : Int)] rfl (Sq.block B12 rfl rfl (Nat.le_refl _) (by simp [maxLen])) (by have := HL.out; have := HML.out; simp; omega) (by decide) HG.out.size ?_; intro a21 c21 w21 r21 f21)
          have HR := Lib.hid (show w21.ownsRow w.heap.size 3 1 (.slice a21 (out.length + 1) c21) (out ++ [(0 : Int)]).length ((out ++ [(0 : Int)]).flatMap fI) by rw [show (Value.slice a21 (out ++ [(0 : Int)]).length c21) = Value.slice a21 (out.length + 1) c21 by simp] at r21; exact r21)
          have HG2 := Lib.hid (HG.out.own f21 (row_base r12))
          clear r21 f21 r12 B12
          go_wp2_with fail
          go_roundw
          case rel => exact ⟨i + 1, by omega, by go_num, by rw [HNX.out]; exact HR.out, HG2.out⟩
          case measure => simp [intOf]; omega
        | cons z r =>
          have g1 : (((i : Nat) : Int) == 0) = false := by simp; omega
          obtain ⟨gz, oz, ez, z0, -, -⟩ := it_cells hs3' (i := 0) (x := z) rfl
          rw [ez] at c0
          simp only [Nat.zero_mul, Nat.add_zero] at z0
          have hm : ms[i]? = some (z.k) := hm
          have HNX := Lib.hid (hnx _ hm)
          have F12 := (Fr.refl [] wr).alloc (.cells #[.int .i64 (z.k)] 3)
          have B12 := Go.heap_alloc_new wr (.cells #[.int .i64 (z.k)] 3)
          have r12 := row_keeps hr F12
          have HG := Lib.hid (F.trans F12)
          clear F12 hnx hm
          go_wp2_with (at_builtin; refine wpList_appSq fI_lays rfl _ _ 32 rfl Tryd.underlying32 intI rfl (B := w.heap.size) _ out rfl r12 _ [z.k] rfl (Sq.block B12 rfl rfl (Nat.le_refl _) (by simp [maxLen])) (by have := HL.out; have := HML.out; simp; omega) (by decide) HG.out.size ?_; intro a21 c21 w21 r21 f21)
          have HR := Lib.hid (show w21.ownsRow w.heap.size 3 1 (.slice a21 (out.length + 1) c21) (out ++ [z.k]).length ((out ++ [z.k]).flatMap fI) by rw [show (Value.slice a21 (out ++ [z.k]).length c21) = Value.slice a21 (out.length + 1) c21 by simp] at r21; exact r21)
          have HG2 := Lib.hid (HG.out.own f21 (row_base r12))
          clear r21 f21 r12 B12
          go_wp2_with fail
          go_roundw
          case rel => exact ⟨i + 1, by omega, by go_num, by rw [HNX.out]; exact HR.out, HG2.out⟩
          case measure => simp [intOf]; omega
    · obtain rfl : i = ms.length := by omega
      rw [List.take_length] at hr
      have HR := Lib.hid hr
      obtain ⟨ao, co, rfl, -, -⟩ := row_cell hr
      clear hr
      go_wp2_with fail
      go_ret
      exact ⟨⟨_, rfl, HR.out⟩, F⟩
end Go.Proofs.YtdnilnjlbobcmaaDoor.Mx
/- The reference's Split (layer 9). -/

namespace Go.Proofs.YtdnilnjlbobcmaaDoor.Mx
open Go.RowKit Go.Proofs.YtdnilnjlbobcmaaDoor.Ar
set_option linter.unusedVariables false
set_option linter.unusedSimpArgs false
theorem row_open {w : World} {B n : Nat} {E : TypeId} {v : Value} {xs : List Value} (h : w.ownsRow B E 1 v (n + 1) xs) : ∃ g c, v = .slice (some ⟨g, 0, none⟩) (n + 1) c ∧ n + 1 ≤ c ∧ c ≤ maxLen ∧ B ≤ g ∧ g < w.heap.size ∧ (∀ (j : Nat) (x : Value), xs[j]? = some x → w.cell? ⟨g, j, none⟩ = some x) ∧ ∀ i, w.frozen? ⟨g, i, none⟩ = false := by
  have hc := row_cell h
  obtain ⟨h1, h2⟩ := h
  rcases h2 with ⟨-, e0⟩ | ⟨g, cap, cur, rfl, hB, hh, hc1, hc2, -⟩
  · omega
  · obtain ⟨a, c, e, -, h3⟩ := hc
    simp only [Value.slice.injEq] at e
    obtain ⟨rfl, -, rfl⟩ := e
    rcases h3 with h0 | ⟨g', e', hlt, hall⟩
    · omega
    · simp only [Option.some.injEq, Addr.mk.injEq] at e'
      obtain ⟨rfl, -⟩ := e'
      exact ⟨g, _, rfl, hc1, hc2, hB, hlt, hall, fun i => frozen_of_row _ _ _ _ _ hh⟩
theorem row_set {w : World} {B n g c : Nat} {E : TypeId} {xs : List Value} (h : w.ownsRow B E 1 (.slice (some ⟨g, 0, none⟩) n c) n xs) (i : Nat) (u : Value) : (w.setCell ⟨g, i, none⟩ u).ownsRow B E 1 (.slice (some ⟨g, 0, none⟩) n c) n (xs.set i u) := by
  obtain ⟨h1, h2⟩ := h
  refine ⟨by simpa using h1, ?_⟩
  rcases h2 with ⟨e, -⟩ | ⟨g', cap, cur, e, hB, hh, hc1, hc2, hs, ht⟩
  · simp at e
  · simp only [Value.slice.injEq, Option.some.injEq, Addr.mk.injEq] at e
    obtain ⟨⟨rfl, -⟩, -, rfl⟩ := e
    refine .inr ⟨g, c, _, rfl, hB, heap_setCell_same w g i cur E u hh, hc1, hc2, by simpa using hs, ?_⟩
    rw [Array.toList_setIfInBounds, List.take_set, ht]
theorem row_zf {w : World} {B n g c : Nat} {E : TypeId} {xs : List Value} (h : w.ownsRow B E 1 (.slice (some ⟨g, 0, none⟩) n c) n xs) : ∀ i, w.frozen? ⟨g, i, none⟩ = false := by
  rcases h.2 with ⟨e, -⟩ | ⟨g', cap, cur, e, -, hh, -⟩
  · simp at e
  · simp only [Value.slice.injEq, Option.some.injEq, Addr.mk.injEq] at e
    obtain ⟨⟨rfl, -⟩, -, -⟩ := e
    exact fun i => frozen_of_row _ _ _ _ _ hh
theorem row_len {w : World} {B sz n n' : Nat} {E : TypeId} {v : Value} {xs : List Value} (e : n' = n) (h : w.ownsRow B E sz v n xs) : w.ownsRow B E sz v n' xs := e ▸ h
theorem flatS_set (ss : List Sv) (i : Nat) (s : Sv) : (ss.flatMap fS).set i s.v = (ss.set i s).flatMap fS := by
  have e : ∀ l : List Sv, l.flatMap fS = l.map Sv.v := fun l => by induction l with
    | nil => rfl
    | cons x l ih => rw [List.flatMap_cons, ih]; rfl
  rw [e, e, List.map_set]
theorem flatS_at {ss : List Sv} {i : Nat} {s : Sv} (h : ss[i]? = some s) : (ss.flatMap fS)[i]? = some s.v := by
  have := fS_lays.at (j := 0) h (by decide)
  rw [Nat.mul_one, Nat.add_zero] at this
  exact this
theorem Gs.set {w : World} {ss : List Sv} {gs : List (List It)} (h : Gs w ss gs) {s : Sv} {g : List It} (hs : Sq fT w s.v g) (n : Nat) : Gs w (ss.set n s) (gs.set n g) := by
  refine ⟨by simp [h.1], fun i t k e1 e2 => ?_⟩
  by_cases hi : i = n
  · subst hi
    have h1 := (List.getElem?_eq_some_iff.1 e1).1
    have h2 := (List.getElem?_eq_some_iff.1 e2).1
    rw [List.length_set] at h1 h2
    rw [List.getElem?_set_self h1] at e1
    rw [List.getElem?_set_self h2] at e2
    cases e1; cases e2; exact hs
  · rw [List.getElem?_set_ne (fun e => hi e.symm)] at e1 e2
    exact h.2 i t k e1 e2
/-- Rows that the call made itself. -/
def Gr (w : World) (B : Nat) (ss : List Sv) (gs : List (List It)) : Prop := ss.length = gs.length ∧ ∀ (i : Nat) (s : Sv) (g : List It), ss[i]? = some s → gs[i]? = some g → w.ownsRow B 43 3 s.v g.length (g.flatMap fT)
theorem row_row_ne {w : World} {B B' sz sz' n n' : Nat} {E E' : TypeId} {v v' : Value} {xs xs' : List Value} (h : w.ownsRow B E sz v n xs) (h' : w.ownsRow B' E' sz' v' n' xs') (hE : E ≠ E') : ∀ g, g ∈ v'.ownBlock.toList → g ∉ v.ownBlock.toList := by
  intro g hg
  rcases h'.2 with ⟨rfl, -⟩ | ⟨g', cap, cur, rfl, -, hh, -⟩
  · simp [Value.ownBlock] at hg
  · simp [Value.ownBlock] at hg
    subst hg
    exact row_ne h hh hE
theorem Gr.gs {w : World} {B : Nat} {ss : List Sv} {gs : List (List It)} (h : Gr w B ss gs) : Gs w ss gs := ⟨h.1, fun i s g e1 e2 => Sq.own (h.2 i s g e1 e2)⟩
theorem Gr.up {w w' : World} {B : Nat} {ss : List Sv} {gs : List (List It)} (h : Gr w B ss gs) (k : Fr [] w w') : Gr w' B ss gs := ⟨h.1, fun i s g e1 e2 => row_keeps (h.2 i s g e1 e2) k⟩
theorem Gr.fr {w w' : World} {B B' n : Nat} {u : Value} {xs : List Value} {ss : List Sv} {gs : List (List It)} (h : Gr w B ss gs) (hu : w.ownsRow B' 22 1 u n xs) (k : Fr u.ownBlock.toList w w') : Gr w' B ss gs :=
  ⟨h.1, fun i s g e1 e2 => row_fr (h.2 i s g e1 e2) k fun b hb => row_row_ne hu (h.2 i s g e1 e2) (by decide) b (by rw [hb]; simp)⟩
theorem Gr.snoc {w : World} {B : Nat} {ss : List Sv} {gs : List (List It)} (h : Gr w B ss gs) {s : Sv} {g : List It} (hs : w.ownsRow B 43 3 s.v g.length (g.flatMap fT)) : Gr w B (ss ++ [s]) (gs ++ [g]) := by
  refine ⟨by simp [h.1], fun i t k e1 e2 => ?_⟩
  by_cases hi : i < ss.length
  · rw [List.getElem?_append_left hi] at e1
    rw [List.getElem?_append_left (by rw [← h.1]; exact hi)] at e2
    exact h.2 i t k e1 e2
  · rw [List.getElem?_append_right (by omega)] at e1
    rw [List.getElem?_append_right (by rw [← h.1]; omega), ← h.1] at e2
    have h0 : i - ss.length = 0 := by have := (List.getElem?_eq_some_iff.1 e1).1; simp at this; omega
    rw [h0] at e1 e2
    simp at e1 e2
    subst e1 e2
    exact hs
theorem Gr.set {w : World} {B : Nat} {ss : List Sv} {gs : List (List It)} (h : Gr w B ss gs) {s : Sv} {g : List It} (hs : w.ownsRow B 43 3 s.v g.length (g.flatMap fT)) (n : Nat) : Gr w B (ss.set n s) (gs.set n g) := by
  refine ⟨by simp [h.1], fun i t k e1 e2 => ?_⟩
  by_cases hi : i = n
  · subst hi
    have h1 := (List.getElem?_eq_some_iff.1 e1).1
    have h2 := (List.getElem?_eq_some_iff.1 e2).1
    rw [List.length_set] at h1 h2
    rw [List.getElem?_set_self h1] at e1
    rw [List.getElem?_set_self h2] at e2
    cases e1; cases e2; exact hs
  · rw [List.getElem?_set_ne (fun e => hi e.symm)] at e1 e2
    exact h.2 i t k e1 e2
theorem Gr.one {w : World} {B : Nat} {ss : List Sv} {gs : List (List It)} (h : Gr w B ss gs) {i : Nat} {g : List It} (hi : gs[i]? = some g) : ∃ s, ss[i]? = some s ∧ s.n = g.length ∧ w.ownsRow B 43 3 s.v g.length (g.flatMap fT) := by
  obtain ⟨s, h1, h2, -⟩ := h.gs.one hi
  exact ⟨s, h1, h2, h.2 i s g h1 hi⟩
/-- A run of one key: where it ends. -/
theorem run_at (p : It → Bool) : ∀ (d : Nat) (l : List It) (i k : Nat), k = i + d → k ≤ l.length → (∀ (j : Nat), i ≤ j → j < k → ∃ y, l[j]? = some y ∧ p y = true) → (∀ y, l[k]? = some y → p y = false) → (l.drop i).takeWhile p = (l.drop i).take d ∧ (l.drop i).dropWhile p = l.drop k := by
  intro d
  induction d with
  | zero =>
    intro l i k e hk hall hend
    obtain rfl : k = i := by omega
    by_cases hi : k < l.length
    · rw [List.drop_eq_getElem_cons hi]
      have := hend _ (List.getElem?_eq_getElem hi)
      exact ⟨by rw [List.takeWhile_cons, if_neg (by simp [this])]; rfl, by rw [List.dropWhile_cons, if_neg (by simp [this])]⟩
    · rw [List.drop_eq_nil_of_le (by omega)]; exact ⟨rfl, rfl⟩
  | succ d ih =>
    intro l i k e hk hall hend
    obtain ⟨y, hy, hp⟩ := hall i (Nat.le_refl _) (by omega)
    obtain ⟨hi, rfl⟩ := List.getElem?_eq_some_iff.1 hy
    have h := ih l (i + 1) k (by omega) hk (fun j h1 h2 => hall j (by omega) h2) hend
    rw [List.drop_eq_getElem_cons hi]
    exact ⟨by rw [List.takeWhile_cons, if_pos hp, h.1]; rfl, by rw [List.dropWhile_cons, if_pos hp, h.2]⟩
theorem splitF_step {half : Int} {m i k : Nat} {l : List It} {x : It} {out : List (List It)} {cur : List It} (hx : l[i]? = some x) (hk : i < k) (hkl : k ≤ l.length) (hall : ∀ (j : Nat), i ≤ j → j < k → ∃ y, l[j]? = some y ∧ y.k = x.k) (hend : ∀ y, l[k]? = some y → y.k ≠ x.k) :
    splitF half (m + 1) (l.drop i) out cur = if cur ≠ [] ∧ half < (cur.length : Int) + (k - i : Nat) then splitF half m (l.drop k) (out ++ [cur]) ((l.drop i).take (k - i)) else splitF half m (l.drop k) out (cur ++ (l.drop i).take (k - i)) := by
  have h := run_at (fun y => y.k == x.k) (k - i) l i k (by omega) hkl (fun j h1 h2 => by obtain ⟨y, h3, h4⟩ := hall j h1 h2; exact ⟨y, h3, by simpa using h4⟩) (fun y hy => by simpa using hend y hy)
  have hlen : ((l.drop i).take (k - i)).length = k - i := by rw [List.length_take, List.length_drop]; omega
  obtain ⟨hi, rfl⟩ := List.getElem?_eq_some_iff.1 hx
  rw [List.drop_eq_getElem_cons hi] at h hlen ⊢
  rw [List.takeWhile_cons, if_pos (by simp), List.dropWhile_cons, if_pos (by simp)] at h
  rw [← h.1] at hlen ⊢
  rw [← h.2]
  show (if cur ≠ [] ∧ half < (cur.length : Int) + _ then _ else _) = _
  rw [hlen]
theorem splitF_nil (half : Int) (m : Nat) (out : List (List It)) (cur : List It) : splitF half m [] out cur = out ++ [cur] := by cases m <;> rfl
/-- Where Split stands. -/
def SplAt (w : World) (half : Int) (l : List It) (R : List (List It)) (u x : Value) (wr : World) : Prop := ∃ (i m d : Nat) (done : List (List It)) (cur : List It) (T : List Sv), i ≤ l.length ∧ x = .int .i64 (i : Nat) ∧ l.length ≤ m + i ∧ splitF half m (l.drop i) done cur = R ∧ d ≤ i ∧ cur.length ≤ i ∧ done.length = d ∧ T.length = d + 1 ∧
  wr.ownsRow w.heap.size 22 1 u (d + 1) (T.flatMap fS) ∧ Gr wr w.heap.size T (done ++ [cur]) ∧ Fr [] w wr
/-- Where a run's search stands. -/
def RunAt (wr : World) (l : List It) (i : Nat) (x : It) (u : Value) (w' : World) : Prop := ∃ k, i ≤ k ∧ k ≤ l.length ∧ u = .int .i64 (k : Nat) ∧ Fr [] wr w' ∧ ∀ (j : Nat), i ≤ j → j < k → ∃ y, l[j]? = some y ∧ y.k = x.k
set_option maxRecDepth 100000 in
set_option maxHeartbeats 6400000 in
theorem split_any (l : List It) (cells : Int) (v : Value) (w : World) (hl : l.length ≤ 1000) (hSq : Sq fT w v l) :
    Calls Tryd.prog 12 #[v, .int .i64 cells] w fun e w' => (∃ u ss, e = .returned u ∧ ss.length = (splitT l cells).length ∧ w'.ownsRow w.heap.size 22 1 u ss.length (ss.flatMap fS) ∧ Gr w' w.heap.size ss (splitT l cells)) ∧ Fr [] w w' := by
  unfold splitT
  obtain ⟨av, cv, rfl, hcv, hmv, -⟩ := id hSq
  generalize hR : splitF (halfOf cells) l.length l [] [] = R
  have HR0 := Lib.hid hR
  clear hR
  go_enter Tryd.func12, Tryd.ntmps12
  have hhf : 1 ≤ halfOf cells ∧ halfOf cells ≤ 8 := by unfold halfOf; omega
  have ehf : max 2 (min cells 16) / 2 = halfOf cells := rfl
  have EHF := Lib.hid ehf
  clear ehf
  have F12 := (Fr.refl [] w).alloc (.cells #[.slice none 0 0] 22)
  have B12 := Go.heap_alloc_new w (.cells #[.slice none 0 0] 22)
  go_wp2_with fail
  have hEH : halfOf cells = max 2 (min cells 16) / 2 := rfl
  rw [hEH] at HR0 hhf
  generalize max 2 (min cells 16) / 2 = hfl at *
  clear EHF hEH
  go_loopw [6, 7] (SplAt w hfl l R) (fun _ x _ => l.length - (intOf x).toNat)
  case atStart => exact ⟨0, l.length, 0, [], [], [⟨none, 0, 0⟩], by omega, rfl, by omega, HR0.out, by omega, by simp, rfl, rfl, ⟨rfl, .inr ⟨w.heap.size, 1, #[.slice none 0 0], rfl, Nat.le_refl _, B12, by omega, by simp [maxLen], rfl, rfl⟩⟩, ⟨rfl, fun i s g e1 e2 => by cases i with | zero => (simp at e1 e2; subst e1 e2; exact ⟨rfl, .inl ⟨rfl, rfl⟩⟩) | succ i => simp at e1⟩, F12⟩
  case round =>
    obtain ⟨i, m, d, done, cur, T, hi, rfl, hm, hRR, hdi, hci, hdl, hTl, hr, hG, F⟩ := hrel
    obtain ⟨g, c, rfl, hgc, hcm, hBg, hgs, hcell, -⟩ := row_open hr
    by_cases hlt : i < l.length
    · obtain ⟨x, hx⟩ : ∃ x, l[i]? = some x := ⟨l[i], List.getElem?_eq_getElem hlt⟩
      obtain ⟨m, rfl⟩ : ∃ m', m = m' + 1 := ⟨m - 1, by omega⟩
      have hzf := fun (w' : World) (f : Fr [] wr w') (w'' : World) (f' : Fr [] w' w'') => (row_zf (row_keeps hr (f.trans f')))
      obtain ⟨s, hs1, hs2, hs3⟩ := hG.one (i := d) (g := cur) (by rw [← hdl]; simp)
      have hcs := hcell d s.v (flatS_at hs1)
      unfold Sv.v at hcs
      rw [hs2] at hcs
      have hh := hSq.up F
      obtain ⟨gl, ol, rfl, x0, -, -⟩ := it_cells hh hx
      have HSP := Lib.hid (fun k => @splitF_step hfl m i k l x done cur hx)
      have HRR := Lib.hid hRR
      have HTl := Lib.hid hTl
      have HDl := Lib.hid hdl
      have HS2 := Lib.hid hs2
      clear hRR hTl hdl hs2 B12
      go_wp2_with fail
      go_loopw [8] (RunAt wr l i x) (fun u _ => l.length - (intOf u).toNat)
      case atStart => exact ⟨i, by omega, by omega, rfl, Fr.refl _ _, fun j h1 h2 => by omega⟩
      case round =>
        obtain ⟨k, hk1, hk2, rfl, F2, hall⟩ := hrel
        have hx0 := In.cell (F2.cell x0 (by simp))
        by_cases hkl : k < l.length
        · obtain ⟨y, hy⟩ : ∃ y, l[k]? = some y := ⟨l[k], List.getElem?_eq_getElem hkl⟩
          obtain ⟨gl', ol', egl, y0, -, -⟩ := it_cells (hh.up F2) hy
          simp only [Option.some.injEq, Addr.mk.injEq] at egl
          obtain ⟨rfl, rfl, -⟩ := egl
          have hy0 := In.cell y0
          by_cases hyx : y.k = x.k
          · have g1 : (y.k == x.k) = true := by simpa using hyx
            have HYX := Lib.hid hyx
            clear hyx
            go_wp2_with fail
            refine wp_region_in (by kernel_rfl) (by kernel_rfl) ?_
            repeat (go_big_quiet_step (fail))
            refine wpQuiet_nil ?_
            intro w7 F7
            go_wp2_with fail
            go_roundw
            case rel => exact ⟨k + 1, by omega, by omega, by go_num, F2.trans F7, fun j h1 h2 => by
              by_cases e : j = k
              · exact ⟨y, by rw [e]; exact hy, HYX.out⟩
              · exact hall j h1 (by omega)⟩
            case measure => simp [intOf]; omega
          · have hik : i < k := by
              rcases Nat.lt_or_ge i k with h1 | h1
              · exact h1
              · obtain rfl : i = k := by omega
                rw [hx] at hy; cases hy; exact absurd rfl hyx
            have g1 : (y.k == x.k) = false := by simpa using hyx
            have HST := Lib.hid (HSP.out k hik hk2 hall (fun z hz => by rw [hy] at hz; cases hz; exact hyx))
            clear hyx
            go_wp2_with fail
            refine wp_region_in (by kernel_rfl) (by kernel_rfl) ?_
            repeat (go_big_quiet_step (fail))
            refine wpQuiet_nil ?_
            intro w7 F7
            have F3 := F2.trans F7
            clear F2 F7 hx0 hy0 y0
            have FW := Lib.hid (F.trans F3)
            have FWW := FW
            have c7 := F3.cell hcs (by simp)
            have HZ := Lib.hid (show ∀ w', Fr [] w7 w' → ∀ j, w'.frozen? ⟨g, j, none⟩ = false from hzf w7 F3)
            by_cases hA : cur ≠ [] ∧ (hfl : Int) < (cur.length : Int) + (k - i : Nat)
            · have e0 : cur.length ≠ 0 := fun e => hA.1 (List.eq_nil_of_length_eq_zero e)
              have e1 : decide ((cur.length : Int) > 0) = true := decide_eq_true (by omega)
              have hA2 := hA.2
              have e2 : decide ((cur.length : Int) + (k : Nat) - (i : Nat) > (hfl : Int)) = true := decide_eq_true (by omega)
              clear hA2
              have HRX := Lib.hid ((if_pos hA).symm.trans (HST.out.symm.trans HRR.out))
              have F12 := (Fr.refl [] w7).alloc (.cells #[.slice none 0 0] 22)
              have B12 := Go.heap_alloc_new w7 (.cells #[.slice none 0 0] 22)
              have r12 := row_keeps (row_keeps hr F3) F12
              have hGA := Lib.hid ((hG.up F3).up F12)
              have HFA := Lib.hid (FW.out.trans F12)
              have HZN := Lib.hid (show w7.heap.size ≤ _ from F12.size)
              have r12' := row_len HTl.out r12
              have HRD := Lib.hid r12
              have HCU := Lib.hid (show cur.length ≤ 1000 ∧ T.length ≤ 1001 from ⟨by omega, by have := HTl.out; omega⟩)
              have HE0 := Lib.hid e0
              clear F12 r12 hA e0
              go_wp2_with (at_builtin; refine wpList_appSq fS_lays rfl _ _ 29 rfl Tryd.underlying29 svI rfl (B := w.heap.size) _ T rfl r12' _ [⟨none, 0, 0⟩] rfl (Sq.block B12 rfl rfl (Nat.le_refl _) (by simp [maxLen])) (by have := HCU.out; simp; omega) (by decide) HFA.out.size ?_; intro a31 c31 w31 r31 f31)
              all_goals try (exfalso; have := HE0.out; omega)
              have f32 : Fr [g] _ w31 := f31
              have hGW := (hGA.out.fr HRD.out f32).snoc (s := ⟨none, 0, 0⟩) (g := []) ⟨rfl, .inl ⟨rfl, rfl⟩⟩
              have FWW := Lib.hid (HFA.out.own f32 (by intro b hb; simp at hb; subst hb; exact hBg))
              have FW := FWW
              have e31 : (T ++ [(⟨none, 0, 0⟩ : Sv)]).length = d + 1 + 1 := by simp; exact HTl.out
              rw [e31] at r31
              obtain ⟨g2, c2, e2, hgc2, hcm2, hBg2, hgs2, hcell2, -⟩ := row_open r31
              simp only [Value.slice.injEq, true_and] at e2
              obtain ⟨rfl, rfl⟩ := e2
              rw [HTl.out]
              have hrW := r31
              have HZ := Lib.hid (show ∀ w', Fr [] w31 w' → ∀ j, w'.frozen? ⟨g2, j, none⟩ = false from fun w' f => row_zf (row_keeps r31 f))
              have hcW := hcell2 (d + 1) (Sv.v ⟨none, 0, 0⟩) (flatS_at (by rw [← HTl.out]; simp))
              have HDN := Lib.hid (show (done ++ [cur]).length = d + 1 from by simp; exact HDl.out)
              have HTN := Lib.hid e31
              have hsn : (⟨none, 0, 0⟩ : Sv).n = ([] : List It).length := rfl
              have hsW : w31.ownsRow w.heap.size 43 3 (Sv.v ⟨none, 0, 0⟩) ([] : List It).length (([] : List It).flatMap fT) := ⟨rfl, .inl ⟨rfl, rfl⟩⟩
              unfold Sv.v at hcW
              clear f31 f32 r31 e31 c7 B12 r12' hcell2
              have hlr : ((l.drop i).take (k - i)).length = k - i := by rw [List.length_take, List.length_drop]; omega
              have SR := Lib.hid (show Sq fT w31 (.slice (some ⟨gl, ol + i * 3, none⟩) (k - i) (cv - i)) ((l.drop i).take (k - i)) from Sq.take fT_lays (Sq.drop fT_lays (hSq.up FW.out) i (by omega)) (k - i) (by rw [List.length_drop]; omega))
              have SC := Lib.hid (show Sq fT w31 (.slice none ([] : List It).length 0) ([] : List It) from by have := Sq.own (f := fT) hsW; unfold Sv.v at this; rw [hsn] at this; exact this)
              have HLR := Lib.hid hlr
              generalize (l.drop i).take (k - i) = run at SR HLR HRX
              clear hlr hsn hsW
              have HC := Lib.hid hcW
              have HRW := Lib.hid hrW
              have HGW := Lib.hid hGW
              clear hcW hrW hGW
              refine wp_region_free (by kernel_rfl) ?_
              refine any_envL [] w31 #[true, true, true, true, true, true, true, true, true, true, true, true, false, false] 12 2 rfl ?_
              refine envL_pass [true, true, true, true, true, true, false, true, true, true, true, false, false, false] 2 (n := 81) (listed' := #[true, true, true, true, true, true, false, true, true, true, true, false, false, false]) rfl (by kernel_rfl) (by kernel_rfl) (by kernel_rfl) (by kernel_rfl) rfl (by kernel_rfl) (fun _ _ d _ _ h => by cases d <;> exact h) ((Fr.refl _ _).drew) ?_
              apply Exists.intro
              refine ⟨fun wf Ff => ?_, ?_⟩
              · have j0 := In.cell (Ff.cell HC.out (by simp))
                simp only [sel]
                repeat (go_big_quiet_step (fail))
                exact wpQuiet_nil rfl
              refine envL_one 6 (by kernel_rfl) rfl rfl (fun w10 F10 => ?_)
              have G := ((Fr.refl [] w31).drew).trans F10
              clear F10
              go_wp2_with (at_builtin; refine wpList_appSq fT_lays rfl _ _ 22 rfl Tryd.underlying22 itI rfl (B := w31.heap.size) (.slice none 0 0) [] rfl ⟨rfl, .inl ⟨rfl, rfl⟩⟩ _ ([] : List It) rfl (SC.out.up G) (by simp <;> omega) (by decide) G.size ?_; intro a21 c21 w21 r21 f21)
              rw [List.nil_append] at r21
              replace G := G.trans f21
              clear f21
              refine nx_normal ⟨G, ?_⟩
              refine envL_one 11 (by kernel_rfl) rfl rfl (fun w13 F13 => ?_)
              have r22 := row_keeps r21 F13
              replace G := G.trans F13
              clear r21 F13
              try rw [List.nil_append]
              go_wp2_with (at_builtin; refine wpList_appSq fT_lays rfl _ _ 22 rfl Tryd.underlying22 itI rfl (B := w31.heap.size) _ ([] : List It) rfl r22 _ run rfl (SR.out.up G) (by have := HLR.out; simp <;> omega) (by decide) G.size ?_; intro a23 c23 w23 r23 f23; generalize hT3 : ([] : List It) ++ run = T3 at r23 ⊢)
              replace G := G.own f23 (row_base r22)
              clear f23 r22
              refine nx_normal ⟨G, ?_⟩
              refine envL_tail (k := 12) rfl (by kernel_rfl) (fun w15 F15 => ?_)
              have r26 := row_keeps r23 F15
              replace G := G.trans F15
              clear r23 F15
              have hcz := G.cell HC.out (by simp)
              have hfz := HZ.out w15 G
              have hr15 := row_keeps HRW.out G
              have hr16 := row_set hr15 (d + 1) (.slice a23 T3.length c23)
              have SF : Fr [g2] w15 (w15.setCell ⟨g2, (d + 1), none⟩ (.slice a23 T3.length c23)) := Fr.setCell _ (by simp)
              have hg16 := ((HGW.out.up G).fr hr15 (by simpa [Value.ownBlock] using SF)).set (s := ⟨a23, T3.length, c23⟩) (g := T3) (row_more (row_fr r26 SF (fun b hb hi => row_row_ne hr15 r26 (by decide) b (by have hb' : (Value.slice a23 T3.length c23).ownBlock = some b := hb; rw [hb']; simp) (by simp at hi; subst hi; simp [Value.ownBlock]))) (FWW.out.size)) (d + 1)
              have HR16 := Lib.hid (show World.ownsRow _ w.heap.size 22 1 _ ((d + 1) + 1) (((T ++ [(⟨none, 0, 0⟩ : Sv)]).set (d + 1) ⟨a23, T3.length, c23⟩).flatMap fS) from by rw [← flatS_set]; exact hr16)
              have HG16 := Lib.hid hg16
              have HF16 := Lib.hid ((FWW.out.trans G).own SF (by intro b hb; simp at hb; subst hb; exact hBg2))
              have HT3 := Lib.hid hT3
              clear hr15 hr16 SF hg16 r26 hT3 G
              go_wp2_with fail
              go_roundw
              case rel => exact ⟨k, m, (d + 1), (done ++ [cur]), T3, (T ++ [(⟨none, 0, 0⟩ : Sv)]).set (d + 1) ⟨a23, T3.length, c23⟩, by omega, by go_num, by omega, by rw [← HT3.out]; exact HRX.out, by omega, by rw [← HT3.out]; have := HLR.out; simp; omega, HDN.out, by rw [List.length_set]; exact HTN.out, HR16.out, by have h := HG16.out; rw [show ((done ++ [cur]) ++ [([] : List It)]).set (d + 1) T3 = (done ++ [cur]) ++ [T3] by rw [← HDN.out, List.set_append_right _ _ (Nat.le_refl _), Nat.sub_self]; rfl] at h; exact h, HF16.out⟩
              case measure => simp [intOf]; omega
            · have HRX := Lib.hid ((if_neg hA).symm.trans (HST.out.symm.trans HRR.out))
              by_cases e0 : cur.length = 0
              · have e1 : decide ((cur.length : Int) > 0) = false := decide_eq_false (by omega)
                have e1a : decide (0 < cur.length) = false := decide_eq_false (by omega)
                have e1b : decide ((0 : Int) < (cur.length : Int)) = false := decide_eq_false (by omega)
                have hrW := row_keeps hr F3
                have hGW := hG.up F3
                have hsW := row_keeps hs3 F3
                have hsn := HS2.out
                have hcW := c7
                have HDN := HDl
                have HTN := HTl
                have hk16 : cur.length ≤ 1000 := by omega
                have HE0 := Lib.hid e0
                clear hA e0
                go_wp2_with fail
                all_goals try (exfalso; have := HE0.out; omega)
                have hlr : ((l.drop i).take (k - i)).length = k - i := by rw [List.length_take, List.length_drop]; omega
                have SR := Lib.hid (show Sq fT w7 (.slice (some ⟨gl, ol + i * 3, none⟩) (k - i) (cv - i)) ((l.drop i).take (k - i)) from Sq.take fT_lays (Sq.drop fT_lays (hSq.up FW.out) i (by omega)) (k - i) (by rw [List.length_drop]; omega))
                have SC := Lib.hid (show Sq fT w7 (.slice s.a cur.length s.c) cur from by have := Sq.own (f := fT) hsW; unfold Sv.v at this; rw [hsn] at this; exact this)
                have HLR := Lib.hid hlr
                generalize (l.drop i).take (k - i) = run at SR HLR HRX
                clear hlr hsn hsW
                have HC := Lib.hid hcW
                have HRW := Lib.hid hrW
                have HGW := Lib.hid hGW
                clear hcW hrW hGW
                refine wp_region_free (by kernel_rfl) ?_
                refine any_envL [] w7 #[true, true, true, true, true, true, true, true, true, true, true, true, false, false] 12 2 rfl ?_
                refine envL_pass [true, true, true, true, true, true, false, true, true, true, true, false, false, false] 2 (n := 81) (listed' := #[true, true, true, true, true, true, false, true, true, true, true, false, false, false]) rfl (by kernel_rfl) (by kernel_rfl) (by kernel_rfl) (by kernel_rfl) rfl (by kernel_rfl) (fun _ _ d _ _ h => by cases d <;> exact h) ((Fr.refl _ _).drew) ?_
                apply Exists.intro
                refine ⟨fun wf Ff => ?_, ?_⟩
                · have j0 := In.cell (Ff.cell HC.out (by simp))
                  simp only [sel]
                  repeat (go_big_quiet_step (fail))
                  exact wpQuiet_nil rfl
                refine envL_one 6 (by kernel_rfl) rfl rfl (fun w10 F10 => ?_)
                have G := ((Fr.refl [] w7).drew).trans F10
                clear F10
                go_wp2_with (at_builtin; refine wpList_appSq fT_lays rfl _ _ 22 rfl Tryd.underlying22 itI rfl (B := w7.heap.size) (.slice none 0 0) [] rfl ⟨rfl, .inl ⟨rfl, rfl⟩⟩ _ cur rfl (SC.out.up G) (by simp <;> omega) (by decide) G.size ?_; intro a21 c21 w21 r21 f21)
                rw [List.nil_append] at r21
                replace G := G.trans f21
                clear f21
                refine nx_normal ⟨G, ?_⟩
                refine envL_one 11 (by kernel_rfl) rfl rfl (fun w13 F13 => ?_)
                have r22 := row_keeps r21 F13
                replace G := G.trans F13
                clear r21 F13
                try rw [List.nil_append]
                go_wp2_with (at_builtin; refine wpList_appSq fT_lays rfl _ _ 22 rfl Tryd.underlying22 itI rfl (B := w7.heap.size) _ cur rfl r22 _ run rfl (SR.out.up G) (by have := HLR.out; simp <;> omega) (by decide) G.size ?_; intro a23 c23 w23 r23 f23; generalize hT3 : cur ++ run = T3 at r23 ⊢)
                replace G := G.own f23 (row_base r22)
                clear f23 r22
                refine nx_normal ⟨G, ?_⟩
                refine envL_tail (k := 12) rfl (by kernel_rfl) (fun w15 F15 => ?_)
                have r26 := row_keeps r23 F15
                replace G := G.trans F15
                clear r23 F15
                have hcz := G.cell HC.out (by simp)
                have hfz := HZ.out w15 G
                have hr15 := row_keeps HRW.out G
                have hr16 := row_set hr15 d (.slice a23 T3.length c23)
                have SF : Fr [g] w15 (w15.setCell ⟨g, d, none⟩ (.slice a23 T3.length c23)) := Fr.setCell _ (by simp)
                have hg16 := ((HGW.out.up G).fr hr15 (by simpa [Value.ownBlock] using SF)).set (s := ⟨a23, T3.length, c23⟩) (g := T3) (row_more (row_fr r26 SF (fun b hb hi => row_row_ne hr15 r26 (by decide) b (by have hb' : (Value.slice a23 T3.length c23).ownBlock = some b := hb; rw [hb']; simp) (by simp at hi; subst hi; simp [Value.ownBlock]))) (FWW.out.size)) d
                have HR16 := Lib.hid (show World.ownsRow _ w.heap.size 22 1 _ (d + 1) ((T.set d ⟨a23, T3.length, c23⟩).flatMap fS) from by rw [← flatS_set]; exact hr16)
                have HG16 := Lib.hid hg16
                have HF16 := Lib.hid ((FWW.out.trans G).own SF (by intro b hb; simp at hb; subst hb; exact hBg))
                have HT3 := Lib.hid hT3
                clear hr15 hr16 SF hg16 r26 hT3 G
                go_wp2_with fail
                go_roundw
                case rel => exact ⟨k, m, d, done, T3, T.set d ⟨a23, T3.length, c23⟩, by omega, by go_num, by omega, by rw [← HT3.out]; exact HRX.out, by omega, by rw [← HT3.out]; have := HLR.out; simp; omega, HDN.out, by rw [List.length_set]; exact HTN.out, HR16.out, by have h := HG16.out; rw [show (done ++ [cur]).set d T3 = done ++ [T3] by rw [← HDN.out, List.set_append_right _ _ (Nat.le_refl _), Nat.sub_self]; rfl] at h; exact h, HF16.out⟩
                case measure => simp [intOf]; omega
              · have e1 : decide ((cur.length : Int) > 0) = true := decide_eq_true (by omega)
                have e2 : decide ((cur.length : Int) + (k : Nat) - (i : Nat) > (hfl : Int)) = false := decide_eq_false (fun e => hA ⟨fun e3 => e0 (by rw [e3]; rfl), by omega⟩)
                have hrW := row_keeps hr F3
                have hGW := hG.up F3
                have hsW := row_keeps hs3 F3
                have hsn := HS2.out
                have hcW := c7
                have HDN := HDl
                have HTN := HTl
                have hk16 : cur.length ≤ 1000 := by omega
                have HE0 := Lib.hid e0
                clear hA e0
                go_wp2_with fail
                all_goals try (exfalso; have := HE0.out; omega)
                have hlr : ((l.drop i).take (k - i)).length = k - i := by rw [List.length_take, List.length_drop]; omega
                have SR := Lib.hid (show Sq fT w7 (.slice (some ⟨gl, ol + i * 3, none⟩) (k - i) (cv - i)) ((l.drop i).take (k - i)) from Sq.take fT_lays (Sq.drop fT_lays (hSq.up FW.out) i (by omega)) (k - i) (by rw [List.length_drop]; omega))
                have SC := Lib.hid (show Sq fT w7 (.slice s.a cur.length s.c) cur from by have := Sq.own (f := fT) hsW; unfold Sv.v at this; rw [hsn] at this; exact this)
                have HLR := Lib.hid hlr
                generalize (l.drop i).take (k - i) = run at SR HLR HRX
                clear hlr hsn hsW
                have HC := Lib.hid hcW
                have HRW := Lib.hid hrW
                have HGW := Lib.hid hGW
                clear hcW hrW hGW
                refine wp_region_free (by kernel_rfl) ?_
                refine any_envL [] w7 #[true, true, true, true, true, true, true, true, true, true, true, true, false, false] 12 2 rfl ?_
                refine envL_pass [true, true, true, true, true, true, false, true, true, true, true, false, false, false] 2 (n := 81) (listed' := #[true, true, true, true, true, true, false, true, true, true, true, false, false, false]) rfl (by kernel_rfl) (by kernel_rfl) (by kernel_rfl) (by kernel_rfl) rfl (by kernel_rfl) (fun _ _ d _ _ h => by cases d <;> exact h) ((Fr.refl _ _).drew) ?_
                apply Exists.intro
                refine ⟨fun wf Ff => ?_, ?_⟩
                · have j0 := In.cell (Ff.cell HC.out (by simp))
                  simp only [sel]
                  repeat (go_big_quiet_step (fail))
                  exact wpQuiet_nil rfl
                refine envL_one 6 (by kernel_rfl) rfl rfl (fun w10 F10 => ?_)
                have G := ((Fr.refl [] w7).drew).trans F10
                clear F10
                go_wp2_with (at_builtin; refine wpList_appSq fT_lays rfl _ _ 22 rfl Tryd.underlying22 itI rfl (B := w7.heap.size) (.slice none 0 0) [] rfl ⟨rfl, .inl ⟨rfl, rfl⟩⟩ _ cur rfl (SC.out.up G) (by simp <;> omega) (by decide) G.size ?_; intro a21 c21 w21 r21 f21)
                rw [List.nil_append] at r21
                replace G := G.trans f21
                clear f21
                refine nx_normal ⟨G, ?_⟩
                refine envL_one 11 (by kernel_rfl) rfl rfl (fun w13 F13 => ?_)
                have r22 := row_keeps r21 F13
                replace G := G.trans F13
                clear r21 F13
                try rw [List.nil_append]
                go_wp2_with (at_builtin; refine wpList_appSq fT_lays rfl _ _ 22 rfl Tryd.underlying22 itI rfl (B := w7.heap.size) _ cur rfl r22 _ run rfl (SR.out.up G) (by have := HLR.out; simp <;> omega) (by decide) G.size ?_; intro a23 c23 w23 r23 f23; generalize hT3 : cur ++ run = T3 at r23 ⊢)
                replace G := G.own f23 (row_base r22)
                clear f23 r22
                refine nx_normal ⟨G, ?_⟩
                refine envL_tail (k := 12) rfl (by kernel_rfl) (fun w15 F15 => ?_)
                have r26 := row_keeps r23 F15
                replace G := G.trans F15
                clear r23 F15
                have hcz := G.cell HC.out (by simp)
                have hfz := HZ.out w15 G
                have hr15 := row_keeps HRW.out G
                have hr16 := row_set hr15 d (.slice a23 T3.length c23)
                have SF : Fr [g] w15 (w15.setCell ⟨g, d, none⟩ (.slice a23 T3.length c23)) := Fr.setCell _ (by simp)
                have hg16 := ((HGW.out.up G).fr hr15 (by simpa [Value.ownBlock] using SF)).set (s := ⟨a23, T3.length, c23⟩) (g := T3) (row_more (row_fr r26 SF (fun b hb hi => row_row_ne hr15 r26 (by decide) b (by have hb' : (Value.slice a23 T3.length c23).ownBlock = some b := hb; rw [hb']; simp) (by simp at hi; subst hi; simp [Value.ownBlock]))) (FWW.out.size)) d
                have HR16 := Lib.hid (show World.ownsRow _ w.heap.size 22 1 _ (d + 1) ((T.set d ⟨a23, T3.length, c23⟩).flatMap fS) from by rw [← flatS_set]; exact hr16)
                have HG16 := Lib.hid hg16
                have HF16 := Lib.hid ((FWW.out.trans G).own SF (by intro b hb; simp at hb; subst hb; exact hBg))
                have HT3 := Lib.hid hT3
                clear hr15 hr16 SF hg16 r26 hT3 G
                go_wp2_with fail
                go_roundw
                case rel => exact ⟨k, m, d, done, T3, T.set d ⟨a23, T3.length, c23⟩, by omega, by go_num, by omega, by rw [← HT3.out]; exact HRX.out, by omega, by rw [← HT3.out]; have := HLR.out; simp; omega, HDN.out, by rw [List.length_set]; exact HTN.out, HR16.out, by have h := HG16.out; rw [show (done ++ [cur]).set d T3 = done ++ [T3] by rw [← HDN.out, List.set_append_right _ _ (Nat.le_refl _), Nat.sub_self]; rfl] at h; exact h, HF16.out⟩
                case measure => simp [intOf]; omega
        · have hik : i < k := by omega
          have HST := Lib.hid (HSP.out k hik hk2 hall (fun z hz => by rw [List.getElem?_eq_none (by omega)] at hz; cases hz))
          go_wp2_with fail
          refine wp_region_in (by kernel_rfl) (by kernel_rfl) ?_
          repeat (go_big_quiet_step (fail))
          refine wpQuiet_nil ?_
          intro w7 F7
          have F3 := F2.trans F7
          clear F2 F7 hx0
          have FW := Lib.hid (F.trans F3)
          have FWW := FW
          have c7 := F3.cell hcs (by simp)
          have HZ := Lib.hid (show ∀ w', Fr [] w7 w' → ∀ j, w'.frozen? ⟨g, j, none⟩ = false from hzf w7 F3)
          by_cases hA : cur ≠ [] ∧ (hfl : Int) < (cur.length : Int) + (k - i : Nat)
          · have e0 : cur.length ≠ 0 := fun e => hA.1 (List.eq_nil_of_length_eq_zero e)
            have e1 : decide ((cur.length : Int) > 0) = true := decide_eq_true (by omega)
            have hA2 := hA.2
            have e2 : decide ((cur.length : Int) + (k : Nat) - (i : Nat) > (hfl : Int)) = true := decide_eq_true (by omega)
            clear hA2
            have HRX := Lib.hid ((if_pos hA).symm.trans (HST.out.symm.trans HRR.out))
            have F12 := (Fr.refl [] w7).alloc (.cells #[.slice none 0 0] 22)
            have B12 := Go.heap_alloc_new w7 (.cells #[.slice none 0 0] 22)
            have r12 := row_keeps (row_keeps hr F3) F12
            have hGA := Lib.hid ((hG.up F3).up F12)
            have HFA := Lib.hid (FW.out.trans F12)
            have HZN := Lib.hid (show w7.heap.size ≤ _ from F12.size)
            have r12' := row_len HTl.out r12
            have HRD := Lib.hid r12
            have HCU := Lib.hid (show cur.length ≤ 1000 ∧ T.length ≤ 1001 from ⟨by omega, by have := HTl.out; omega⟩)
            have HE0 := Lib.hid e0
            clear F12 r12 hA e0
            go_wp2_with (at_builtin; refine wpList_appSq fS_lays rfl _ _ 29 rfl Tryd.underlying29 svI rfl (B := w.heap.size) _ T rfl r12' _ [⟨none, 0, 0⟩] rfl (Sq.block B12 rfl rfl (Nat.le_refl _) (by simp [maxLen])) (by have := HCU.out; simp; omega) (by decide) HFA.out.size ?_; intro a31 c31 w31 r31 f31)
            all_goals try (exfalso; have := HE0.out; omega)
            have f32 : Fr [g] _ w31 := f31
            have hGW := (hGA.out.fr HRD.out f32).snoc (s := ⟨none, 0, 0⟩) (g := []) ⟨rfl, .inl ⟨rfl, rfl⟩⟩
            have FWW := Lib.hid (HFA.out.own f32 (by intro b hb; simp at hb; subst hb; exact hBg))
            have FW := FWW
            have e31 : (T ++ [(⟨none, 0, 0⟩ : Sv)]).length = d + 1 + 1 := by simp; exact HTl.out
            rw [e31] at r31
            obtain ⟨g2, c2, e2, hgc2, hcm2, hBg2, hgs2, hcell2, -⟩ := row_open r31
            simp only [Value.slice.injEq, true_and] at e2
            obtain ⟨rfl, rfl⟩ := e2
            rw [HTl.out]
            have hrW := r31
            have HZ := Lib.hid (show ∀ w', Fr [] w31 w' → ∀ j, w'.frozen? ⟨g2, j, none⟩ = false from fun w' f => row_zf (row_keeps r31 f))
            have hcW := hcell2 (d + 1) (Sv.v ⟨none, 0, 0⟩) (flatS_at (by rw [← HTl.out]; simp))
            have HDN := Lib.hid (show (done ++ [cur]).length = d + 1 from by simp; exact HDl.out)
            have HTN := Lib.hid e31
            have hsn : (⟨none, 0, 0⟩ : Sv).n = ([] : List It).length := rfl
            have hsW : w31.ownsRow w.heap.size 43 3 (Sv.v ⟨none, 0, 0⟩) ([] : List It).length (([] : List It).flatMap fT) := ⟨rfl, .inl ⟨rfl, rfl⟩⟩
            unfold Sv.v at hcW
            clear f31 f32 r31 e31 c7 B12 r12' hcell2
            have hlr : ((l.drop i).take (k - i)).length = k - i := by rw [List.length_take, List.length_drop]; omega
            have SR := Lib.hid (show Sq fT w31 (.slice (some ⟨gl, ol + i * 3, none⟩) (k - i) (cv - i)) ((l.drop i).take (k - i)) from Sq.take fT_lays (Sq.drop fT_lays (hSq.up FW.out) i (by omega)) (k - i) (by rw [List.length_drop]; omega))
            have SC := Lib.hid (show Sq fT w31 (.slice none ([] : List It).length 0) ([] : List It) from by have := Sq.own (f := fT) hsW; unfold Sv.v at this; rw [hsn] at this; exact this)
            have HLR := Lib.hid hlr
            generalize (l.drop i).take (k - i) = run at SR HLR HRX
            clear hlr hsn hsW
            have HC := Lib.hid hcW
            have HRW := Lib.hid hrW
            have HGW := Lib.hid hGW
            clear hcW hrW hGW
            refine wp_region_free (by kernel_rfl) ?_
            refine any_envL [] w31 #[true, true, true, true, true, true, true, true, true, true, true, true, false, false] 12 2 rfl ?_
            refine envL_pass [true, true, true, true, true, true, false, true, true, true, true, false, false, false] 2 (n := 81) (listed' := #[true, true, true, true, true, true, false, true, true, true, true, false, false, false]) rfl (by kernel_rfl) (by kernel_rfl) (by kernel_rfl) (by kernel_rfl) rfl (by kernel_rfl) (fun _ _ d _ _ h => by cases d <;> exact h) ((Fr.refl _ _).drew) ?_
            apply Exists.intro
            refine ⟨fun wf Ff => ?_, ?_⟩
            · have j0 := In.cell (Ff.cell HC.out (by simp))
              simp only [sel]
              repeat (go_big_quiet_step (fail))
              exact wpQuiet_nil rfl
            refine envL_one 6 (by kernel_rfl) rfl rfl (fun w10 F10 => ?_)
            have G := ((Fr.refl [] w31).drew).trans F10
            clear F10
            go_wp2_with (at_builtin; refine wpList_appSq fT_lays rfl _ _ 22 rfl Tryd.underlying22 itI rfl (B := w31.heap.size) (.slice none 0 0) [] rfl ⟨rfl, .inl ⟨rfl, rfl⟩⟩ _ ([] : List It) rfl (SC.out.up G) (by simp <;> omega) (by decide) G.size ?_; intro a21 c21 w21 r21 f21)
            rw [List.nil_append] at r21
            replace G := G.trans f21
            clear f21
            refine nx_normal ⟨G, ?_⟩
            refine envL_one 11 (by kernel_rfl) rfl rfl (fun w13 F13 => ?_)
            have r22 := row_keeps r21 F13
            replace G := G.trans F13
            clear r21 F13
            try rw [List.nil_append]
            go_wp2_with (at_builtin; refine wpList_appSq fT_lays rfl _ _ 22 rfl Tryd.underlying22 itI rfl (B := w31.heap.size) _ ([] : List It) rfl r22 _ run rfl (SR.out.up G) (by have := HLR.out; simp <;> omega) (by decide) G.size ?_; intro a23 c23 w23 r23 f23; generalize hT3 : ([] : List It) ++ run = T3 at r23 ⊢)
            replace G := G.own f23 (row_base r22)
            clear f23 r22
            refine nx_normal ⟨G, ?_⟩
            refine envL_tail (k := 12) rfl (by kernel_rfl) (fun w15 F15 => ?_)
            have r26 := row_keeps r23 F15
            replace G := G.trans F15
            clear r23 F15
            have hcz := G.cell HC.out (by simp)
            have hfz := HZ.out w15 G
            have hr15 := row_keeps HRW.out G
            have hr16 := row_set hr15 (d + 1) (.slice a23 T3.length c23)
            have SF : Fr [g2] w15 (w15.setCell ⟨g2, (d + 1), none⟩ (.slice a23 T3.length c23)) := Fr.setCell _ (by simp)
            have hg16 := ((HGW.out.up G).fr hr15 (by simpa [Value.ownBlock] using SF)).set (s := ⟨a23, T3.length, c23⟩) (g := T3) (row_more (row_fr r26 SF (fun b hb hi => row_row_ne hr15 r26 (by decide) b (by have hb' : (Value.slice a23 T3.length c23).ownBlock = some b := hb; rw [hb']; simp) (by simp at hi; subst hi; simp [Value.ownBlock]))) (FWW.out.size)) (d + 1)
            have HR16 := Lib.hid (show World.ownsRow _ w.heap.size 22 1 _ ((d + 1) + 1) (((T ++ [(⟨none, 0, 0⟩ : Sv)]).set (d + 1) ⟨a23, T3.length, c23⟩).flatMap fS) from by rw [← flatS_set]; exact hr16)
            have HG16 := Lib.hid hg16
            have HF16 := Lib.hid ((FWW.out.trans G).own SF (by intro b hb; simp at hb; subst hb; exact hBg2))
            have HT3 := Lib.hid hT3
            clear hr15 hr16 SF hg16 r26 hT3 G
            go_wp2_with fail
            go_roundw
            case rel => exact ⟨k, m, (d + 1), (done ++ [cur]), T3, (T ++ [(⟨none, 0, 0⟩ : Sv)]).set (d + 1) ⟨a23, T3.length, c23⟩, by omega, by go_num, by omega, by rw [← HT3.out]; exact HRX.out, by omega, by rw [← HT3.out]; have := HLR.out; simp; omega, HDN.out, by rw [List.length_set]; exact HTN.out, HR16.out, by have h := HG16.out; rw [show ((done ++ [cur]) ++ [([] : List It)]).set (d + 1) T3 = (done ++ [cur]) ++ [T3] by rw [← HDN.out, List.set_append_right _ _ (Nat.le_refl _), Nat.sub_self]; rfl] at h; exact h, HF16.out⟩
            case measure => simp [intOf]; omega
          · have HRX := Lib.hid ((if_neg hA).symm.trans (HST.out.symm.trans HRR.out))
            by_cases e0 : cur.length = 0
            · have e1 : decide ((cur.length : Int) > 0) = false := decide_eq_false (by omega)
              have e1a : decide (0 < cur.length) = false := decide_eq_false (by omega)
              have e1b : decide ((0 : Int) < (cur.length : Int)) = false := decide_eq_false (by omega)
              have hrW := row_keeps hr F3
              have hGW := hG.up F3
              have hsW := row_keeps hs3 F3
              have hsn := HS2.out
              have hcW := c7
              have HDN := HDl
              have HTN := HTl
              have hk16 : cur.length ≤ 1000 := by omega
              have HE0 := Lib.hid e0
              clear hA e0
              go_wp2_with fail
              all_goals try (exfalso; have := HE0.out; omega)
              have hlr : ((l.drop i).take (k - i)).length = k - i := by rw [List.length_take, List.length_drop]; omega
              have SR := Lib.hid (show Sq fT w7 (.slice (some ⟨gl, ol + i * 3, none⟩) (k - i) (cv - i)) ((l.drop i).take (k - i)) from Sq.take fT_lays (Sq.drop fT_lays (hSq.up FW.out) i (by omega)) (k - i) (by rw [List.length_drop]; omega))
              have SC := Lib.hid (show Sq fT w7 (.slice s.a cur.length s.c) cur from by have := Sq.own (f := fT) hsW; unfold Sv.v at this; rw [hsn] at this; exact this)
              have HLR := Lib.hid hlr
              generalize (l.drop i).take (k - i) = run at SR HLR HRX
              clear hlr hsn hsW
              have HC := Lib.hid hcW
              have HRW := Lib.hid hrW
              have HGW := Lib.hid hGW
              clear hcW hrW hGW
              refine wp_region_free (by kernel_rfl) ?_
              refine any_envL [] w7 #[true, true, true, true, true, true, true, true, true, true, true, true, false, false] 12 2 rfl ?_
              refine envL_pass [true, true, true, true, true, true, false, true, true, true, true, false, false, false] 2 (n := 81) (listed' := #[true, true, true, true, true, true, false, true, true, true, true, false, false, false]) rfl (by kernel_rfl) (by kernel_rfl) (by kernel_rfl) (by kernel_rfl) rfl (by kernel_rfl) (fun _ _ d _ _ h => by cases d <;> exact h) ((Fr.refl _ _).drew) ?_
              apply Exists.intro
              refine ⟨fun wf Ff => ?_, ?_⟩
              · have j0 := In.cell (Ff.cell HC.out (by simp))
                simp only [sel]
                repeat (go_big_quiet_step (fail))
                exact wpQuiet_nil rfl
              refine envL_one 6 (by kernel_rfl) rfl rfl (fun w10 F10 => ?_)
              have G := ((Fr.refl [] w7).drew).trans F10
              clear F10
              go_wp2_with (at_builtin; refine wpList_appSq fT_lays rfl _ _ 22 rfl Tryd.underlying22 itI rfl (B := w7.heap.size) (.slice none 0 0) [] rfl ⟨rfl, .inl ⟨rfl, rfl⟩⟩ _ cur rfl (SC.out.up G) (by simp <;> omega) (by decide) G.size ?_; intro a21 c21 w21 r21 f21)
              rw [List.nil_append] at r21
              replace G := G.trans f21
              clear f21
              refine nx_normal ⟨G, ?_⟩
              refine envL_one 11 (by kernel_rfl) rfl rfl (fun w13 F13 => ?_)
              have r22 := row_keeps r21 F13
              replace G := G.trans F13
              clear r21 F13
              try rw [List.nil_append]
              go_wp2_with (at_builtin; refine wpList_appSq fT_lays rfl _ _ 22 rfl Tryd.underlying22 itI rfl (B := w7.heap.size) _ cur rfl r22 _ run rfl (SR.out.up G) (by have := HLR.out; simp <;> omega) (by decide) G.size ?_; intro a23 c23 w23 r23 f23; generalize hT3 : cur ++ run = T3 at r23 ⊢)
              replace G := G.own f23 (row_base r22)
              clear f23 r22
              refine nx_normal ⟨G, ?_⟩
              refine envL_tail (k := 12) rfl (by kernel_rfl) (fun w15 F15 => ?_)
              have r26 := row_keeps r23 F15
              replace G := G.trans F15
              clear r23 F15
              have hcz := G.cell HC.out (by simp)
              have hfz := HZ.out w15 G
              have hr15 := row_keeps HRW.out G
              have hr16 := row_set hr15 d (.slice a23 T3.length c23)
              have SF : Fr [g] w15 (w15.setCell ⟨g, d, none⟩ (.slice a23 T3.length c23)) := Fr.setCell _ (by simp)
              have hg16 := ((HGW.out.up G).fr hr15 (by simpa [Value.ownBlock] using SF)).set (s := ⟨a23, T3.length, c23⟩) (g := T3) (row_more (row_fr r26 SF (fun b hb hi => row_row_ne hr15 r26 (by decide) b (by have hb' : (Value.slice a23 T3.length c23).ownBlock = some b := hb; rw [hb']; simp) (by simp at hi; subst hi; simp [Value.ownBlock]))) (FWW.out.size)) d
              have HR16 := Lib.hid (show World.ownsRow _ w.heap.size 22 1 _ (d + 1) ((T.set d ⟨a23, T3.length, c23⟩).flatMap fS) from by rw [← flatS_set]; exact hr16)
              have HG16 := Lib.hid hg16
              have HF16 := Lib.hid ((FWW.out.trans G).own SF (by intro b hb; simp at hb; subst hb; exact hBg))
              have HT3 := Lib.hid hT3
              clear hr15 hr16 SF hg16 r26 hT3 G
              go_wp2_with fail
              go_roundw
              case rel => exact ⟨k, m, d, done, T3, T.set d ⟨a23, T3.length, c23⟩, by omega, by go_num, by omega, by rw [← HT3.out]; exact HRX.out, by omega, by rw [← HT3.out]; have := HLR.out; simp; omega, HDN.out, by rw [List.length_set]; exact HTN.out, HR16.out, by have h := HG16.out; rw [show (done ++ [cur]).set d T3 = done ++ [T3] by rw [← HDN.out, List.set_append_right _ _ (Nat.le_refl _), Nat.sub_self]; rfl] at h; exact h, HF16.out⟩
              case measure => simp [intOf]; omega
            · have e1 : decide ((cur.length : Int) > 0) = true := decide_eq_true (by omega)
              have e2 : decide ((cur.length : Int) + (k : Nat) - (i : Nat) > (hfl : Int)) = false := decide_eq_false (fun e => hA ⟨fun e3 => e0 (by rw [e3]; rfl), by omega⟩)
              have hrW := row_keeps hr F3
              have hGW := hG.up F3
              have hsW := row_keeps hs3 F3
              have hsn := HS2.out
              have hcW := c7
              have HDN := HDl
              have HTN := HTl
              have hk16 : cur.length ≤ 1000 := by omega
              have HE0 := Lib.hid e0
              clear hA e0
              go_wp2_with fail
              all_goals try (exfalso; have := HE0.out; omega)
              have hlr : ((l.drop i).take (k - i)).length = k - i := by rw [List.length_take, List.length_drop]; omega
              have SR := Lib.hid (show Sq fT w7 (.slice (some ⟨gl, ol + i * 3, none⟩) (k - i) (cv - i)) ((l.drop i).take (k - i)) from Sq.take fT_lays (Sq.drop fT_lays (hSq.up FW.out) i (by omega)) (k - i) (by rw [List.length_drop]; omega))
              have SC := Lib.hid (show Sq fT w7 (.slice s.a cur.length s.c) cur from by have := Sq.own (f := fT) hsW; unfold Sv.v at this; rw [hsn] at this; exact this)
              have HLR := Lib.hid hlr
              generalize (l.drop i).take (k - i) = run at SR HLR HRX
              clear hlr hsn hsW
              have HC := Lib.hid hcW
              have HRW := Lib.hid hrW
              have HGW := Lib.hid hGW
              clear hcW hrW hGW
              refine wp_region_free (by kernel_rfl) ?_
              refine any_envL [] w7 #[true, true, true, true, true, true, true, true, true, true, true, true, false, false] 12 2 rfl ?_
              refine envL_pass [true, true, true, true, true, true, false, true, true, true, true, false, false, false] 2 (n := 81) (listed' := #[true, true, true, true, true, true, false, true, true, true, true, false, false, false]) rfl (by kernel_rfl) (by kernel_rfl) (by kernel_rfl) (by kernel_rfl) rfl (by kernel_rfl) (fun _ _ d _ _ h => by cases d <;> exact h) ((Fr.refl _ _).drew) ?_
              apply Exists.intro
              refine ⟨fun wf Ff => ?_, ?_⟩
              · have j0 := In.cell (Ff.cell HC.out (by simp))
                simp only [sel]
                repeat (go_big_quiet_step (fail))
                exact wpQuiet_nil rfl
              refine envL_one 6 (by kernel_rfl) rfl rfl (fun w10 F10 => ?_)
              have G := ((Fr.refl [] w7).drew).trans F10
              clear F10
              go_wp2_with (at_builtin; refine wpList_appSq fT_lays rfl _ _ 22 rfl Tryd.underlying22 itI rfl (B := w7.heap.size) (.slice none 0 0) [] rfl ⟨rfl, .inl ⟨rfl, rfl⟩⟩ _ cur rfl (SC.out.up G) (by simp <;> omega) (by decide) G.size ?_; intro a21 c21 w21 r21 f21)
              rw [List.nil_append] at r21
              replace G := G.trans f21
              clear f21
              refine nx_normal ⟨G, ?_⟩
              refine envL_one 11 (by kernel_rfl) rfl rfl (fun w13 F13 => ?_)
              have r22 := row_keeps r21 F13
              replace G := G.trans F13
              clear r21 F13
              try rw [List.nil_append]
              go_wp2_with (at_builtin; refine wpList_appSq fT_lays rfl _ _ 22 rfl Tryd.underlying22 itI rfl (B := w7.heap.size) _ cur rfl r22 _ run rfl (SR.out.up G) (by have := HLR.out; simp <;> omega) (by decide) G.size ?_; intro a23 c23 w23 r23 f23; generalize hT3 : cur ++ run = T3 at r23 ⊢)
              replace G := G.own f23 (row_base r22)
              clear f23 r22
              refine nx_normal ⟨G, ?_⟩
              refine envL_tail (k := 12) rfl (by kernel_rfl) (fun w15 F15 => ?_)
              have r26 := row_keeps r23 F15
              replace G := G.trans F15
              clear r23 F15
              have hcz := G.cell HC.out (by simp)
              have hfz := HZ.out w15 G
              have hr15 := row_keeps HRW.out G
              have hr16 := row_set hr15 d (.slice a23 T3.length c23)
              have SF : Fr [g] w15 (w15.setCell ⟨g, d, none⟩ (.slice a23 T3.length c23)) := Fr.setCell _ (by simp)
              have hg16 := ((HGW.out.up G).fr hr15 (by simpa [Value.ownBlock] using SF)).set (s := ⟨a23, T3.length, c23⟩) (g := T3) (row_more (row_fr r26 SF (fun b hb hi => row_row_ne hr15 r26 (by decide) b (by have hb' : (Value.slice a23 T3.length c23).ownBlock = some b := hb; rw [hb']; simp) (by simp at hi; subst hi; simp [Value.ownBlock]))) (FWW.out.size)) d
              have HR16 := Lib.hid (show World.ownsRow _ w.heap.size 22 1 _ (d + 1) ((T.set d ⟨a23, T3.length, c23⟩).flatMap fS) from by rw [← flatS_set]; exact hr16)
              have HG16 := Lib.hid hg16
              have HF16 := Lib.hid ((FWW.out.trans G).own SF (by intro b hb; simp at hb; subst hb; exact hBg))
              have HT3 := Lib.hid hT3
              clear hr15 hr16 SF hg16 r26 hT3 G
              go_wp2_with fail
              go_roundw
              case rel => exact ⟨k, m, d, done, T3, T.set d ⟨a23, T3.length, c23⟩, by omega, by go_num, by omega, by rw [← HT3.out]; exact HRX.out, by omega, by rw [← HT3.out]; have := HLR.out; simp; omega, HDN.out, by rw [List.length_set]; exact HTN.out, HR16.out, by have h := HG16.out; rw [show (done ++ [cur]).set d T3 = done ++ [T3] by rw [← HDN.out, List.set_append_right _ _ (Nat.le_refl _), Nat.sub_self]; rfl] at h; exact h, HF16.out⟩
              case measure => simp [intOf]; omega
    · obtain rfl : i = l.length := by omega
      rw [List.drop_length] at hRR
      have hRe : R = done ++ [cur] := by rw [← hRR]; exact splitF_nil _ _ _ _
      have HL := Lib.hid (show T.length = R.length from by rw [hRe, hTl, List.length_append, hdl]; rfl)
      have HR := Lib.hid (row_len hTl hr)
      have HG := Lib.hid (show Gr wr w.heap.size T R from by rw [hRe]; exact hG)
      clear hRe hRR hTl hdl hr hG
      go_wp2_with fail
      go_ret
      exact ⟨⟨_, T, rfl, HL.out, HR.out, HG.out⟩, F⟩
end Go.Proofs.YtdnilnjlbobcmaaDoor.Mx
