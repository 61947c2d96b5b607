/- Items in order, the latest, what is kept, keys, merging: functions of lists alone. -/
import Derived.Test.YteahponbknljlaaKept
import Derived.Sort.LotA
import Derived.Sort.WalkA
namespace Go.Proofs.Yteahponbknljlaa.Mx
open Go.Sort
set_option linter.unusedVariables false
set_option linter.unusedSimpArgs false
theorem keepS_cons (vs : List Int) (x : It) (r : List It) : keepS vs (x :: r) = if keepsB x r.head? vs = true then x :: keepS vs r else keepS vs r := rfl
def leT (x y : It) : Prop := x.k < y.k ∨ (x.k = y.k ∧ x.v ≤ y.v)
def ltT (x y : It) : Prop := x.k < y.k ∨ (x.k = y.k ∧ x.v < y.v)
def atS (k v : Int) (x : It) : Bool := (x.k == k) && (x.v == v)
theorem atS_iff {k v : Int} {x : It} : atS k v x = true ↔ x.k = k ∧ x.v = v := by simp [atS]
def Srt (l : List It) : Prop := l.Pairwise leT
theorem leT_trans {x y z : It} (h : leT x y) (g : leT y z) : leT x z := by unfold leT at *; omega
theorem leT_refl (x : It) : leT x x := by unfold leT; omega
theorem ltT_le {x y : It} (h : ltT x y) : leT x y := by unfold leT ltT at *; omega
theorem srt_cons {x : It} {l : List It} : Srt (x :: l) ↔ (∀ y ∈ l, leT x y) ∧ Srt l := List.pairwise_cons
theorem cls_mem {a b : List It} (h : ∀ k v, a.filter (atS k v) = b.filter (atS k v)) (x : It) : x ∈ a ↔ x ∈ b := by
  have e := h x.k x.v
  have p : atS x.k x.v x = true := atS_iff.2 ⟨rfl, rfl⟩
  constructor
  · intro hx
    have : x ∈ a.filter (atS x.k x.v) := List.mem_filter.2 ⟨hx, p⟩
    rw [e] at this; exact (List.mem_filter.1 this).1
  · intro hx
    have : x ∈ b.filter (atS x.k x.v) := List.mem_filter.2 ⟨hx, p⟩
    rw [← e] at this; exact (List.mem_filter.1 this).1
theorem srt_unique : ∀ (a b : List It), Srt a → Srt b → (∀ k v, a.filter (atS k v) = b.filter (atS k v)) → a = b
  | [], [], _, _, _ => rfl
  | [], y :: b, _, _, h => absurd ((cls_mem h y).2 (by simp)) (by simp)
  | x :: a, [], _, _, h => absurd ((cls_mem h x).1 (by simp)) (by simp)
  | x :: a, y :: b, ha, hb, h => by
    have hx := (cls_mem h x).1 (by simp)
    have hy := (cls_mem h y).2 (by simp)
    have h1 : leT y x := by
      rcases List.mem_cons.1 hx with e | e
      · rw [e]; exact leT_refl _
      · exact (srt_cons.1 hb).1 _ e
    have h2 : leT x y := by
      rcases List.mem_cons.1 hy with e | e
      · rw [e]; exact leT_refl _
      · exact (srt_cons.1 ha).1 _ e
    have hk : x.k = y.k ∧ x.v = y.v := by unfold leT at *; omega
    have e := h x.k x.v
    have px : atS x.k x.v x = true := atS_iff.2 ⟨rfl, rfl⟩
    have py : atS x.k x.v y = true := atS_iff.2 ⟨hk.1.symm, hk.2.symm⟩
    rw [List.filter_cons_of_pos px, List.filter_cons_of_pos py] at e
    obtain ⟨rfl, -⟩ := List.cons.inj e
    congr 1
    refine srt_unique a b (srt_cons.1 ha).2 (srt_cons.1 hb).2 fun k v => ?_
    have e := h k v
    by_cases p : atS k v x = true
    · rw [List.filter_cons_of_pos p, List.filter_cons_of_pos p] at e; exact (List.cons.inj e).2
    · rw [List.filter_cons_of_neg p, List.filter_cons_of_neg p] at e; exact e
theorem gtT_iff {x y : It} : gtT y x = true ↔ ltT x y := by
  unfold gtT ltT; simp only [Bool.or_eq_true, Bool.and_eq_true, decide_eq_true_eq, beq_iff_eq]; constructor <;> (intro h; omega)
theorem posT_spec (out : List It) (x : It) : ∀ n, n ≤ out.length → (∀ j (hj : j < out.length), posT out x n ≤ j → j < n → ltT x out[j]) ∧ (∀ (h : 0 < posT out x n) (hl : posT out x n - 1 < out.length), ¬ ltT x (out[posT out x n - 1]'hl)) := by
  intro n
  induction n with
  | zero => exact fun _ => ⟨fun j hj h1 h2 => absurd h2 (by omega), fun h => absurd h (by simp [posT])⟩
  | succ k ih =>
    intro hn
    have hk : k < out.length := by omega
    have he : out[k]? = some out[k] := List.getElem?_eq_getElem hk
    rw [posT_succ he]
    split
    · rename_i hg
      obtain ⟨h1, h2⟩ := ih (by omega)
      refine ⟨fun j hj a b => ?_, h2⟩
      by_cases e : j = k
      · subst e; exact gtT_iff.1 hg
      · exact h1 j hj a (by omega)
    · rename_i hg
      refine ⟨fun j hj a b => absurd b (by omega), fun h hl => ?_⟩
      intro hh
      exact hg (gtT_iff.2 (by simpa using hh))
theorem insT_parts (out : List It) (x : It) (h : Srt out) : ∃ A B, out = A ++ B ∧ insT out x = A ++ x :: B ∧ (∀ y ∈ A, leT y x) ∧ (∀ y ∈ B, ltT x y) := by
  refine ⟨out.take (posT out x out.length), out.drop (posT out x out.length), (List.take_append_drop _ _).symm, by unfold insT; simp, ?_, ?_⟩
  · intro y hy
    obtain ⟨h1, h2⟩ := posT_spec out x out.length (Nat.le_refl _)
    have hp := posT_le out x out.length
    obtain ⟨i, hi, rfl⟩ := List.getElem_of_mem hy
    have hi' := hi
    rw [List.length_take] at hi'
    rw [List.getElem_take]
    have hl : posT out x out.length - 1 < out.length := by omega
    have h3 := h2 (by omega) hl
    have h4 : leT out[i] out[posT out x out.length - 1] := by
      by_cases e : i = posT out x out.length - 1
      · simp only [← e]; exact leT_refl _
      · exact (List.pairwise_iff_getElem.1 h) _ _ (by omega) hl (by omega)
    generalize out[posT out x out.length - 1] = z at *
    generalize out[i] = y at *
    unfold leT ltT at *; omega
  · intro y hy
    obtain ⟨h1, h2⟩ := posT_spec out x out.length (Nat.le_refl _)
    obtain ⟨i, hi, rfl⟩ := List.getElem_of_mem hy
    rw [List.length_drop] at hi
    rw [List.getElem_drop]
    exact h1 _ (by omega) (by omega) (by omega)
theorem insT_srt {out : List It} (h : Srt out) (x : It) : Srt (insT out x) := by
  obtain ⟨A, B, e, e2, hA, hB⟩ := insT_parts out x h
  rw [e2]; rw [e] at h
  unfold Srt at *
  rw [List.pairwise_append] at *
  refine ⟨h.1, List.pairwise_cons.2 ⟨fun y hy => ltT_le (hB y hy), h.2.1⟩, fun a ha b hb => ?_⟩
  rcases List.mem_cons.1 hb with rfl | hb
  · exact hA a ha
  · exact h.2.2 a ha b hb
theorem insT_cls {out : List It} (h : Srt out) (x : It) (k v : Int) : (insT out x).filter (atS k v) = (out ++ [x]).filter (atS k v) := by
  obtain ⟨A, B, e, e2, hA, hB⟩ := insT_parts out x h
  rw [e2]; rw [e]
  by_cases p : atS k v x = true
  · have hB0 : B.filter (atS k v) = [] := by
      rw [List.filter_eq_nil_iff]
      intro y hy hp
      have := hB y hy
      have := atS_iff.1 hp
      have := atS_iff.1 p
      unfold ltT at *; omega
    simp [List.filter_append, List.filter_cons_of_pos p, hB0]
  · simp [List.filter_append, List.filter_cons_of_neg p]
theorem fold_srt (l : List It) : ∀ out, Srt out → Srt (l.foldl insT out) ∧ ∀ k v, (l.foldl insT out).filter (atS k v) = (out ++ l).filter (atS k v) := by
  induction l with
  | nil => intro out h; exact ⟨h, fun k v => by simp⟩
  | cons x l ih =>
    intro out h
    obtain ⟨h1, h2⟩ := ih _ (insT_srt h x)
    refine ⟨h1, fun k v => ?_⟩
    rw [List.foldl_cons, h2, List.filter_append, insT_cls h, ← List.filter_append]
    simp
theorem sortT_srt (l : List It) : Srt (sortT l) := (fold_srt l [] List.Pairwise.nil).1
theorem sortT_cls (l : List It) (k v : Int) : (sortT l).filter (atS k v) = l.filter (atS k v) := (fold_srt l [] List.Pairwise.nil).2 k v
theorem sort_eq {l a : List It} (h : Srt a) (hc : ∀ k v, a.filter (atS k v) = l.filter (atS k v)) : a = sortT l :=
  srt_unique _ _ h (sortT_srt l) fun k v => by rw [hc, sortT_cls]
theorem sortT_of {s : List It} (h : Srt s) : sortT s = s := (sort_eq h fun _ _ => rfl).symm
theorem mem_sortT {l : List It} {x : It} : x ∈ sortT l ↔ x ∈ l := cls_mem (sortT_cls l) x
/-- The latest of a key at a version. -/
def lat1 (k v : Int) (b : Option It) (x : It) : Option It := if x.k = k ∧ x.v ≤ v ∧ b.all (fun y => decide (y.v ≤ x.v)) = true then some x else b
def latT (l : List It) (k v : Int) : Option It := l.foldl (lat1 k v) none
def P8 (k v : Int) (x : It) : Bool := (x.k == k) && decide (x.v ≤ v)
theorem P8_iff {k v : Int} {x : It} : P8 k v x = true ↔ x.k = k ∧ x.v ≤ v := by simp [P8]
theorem lat1_eq {out : List It} (h : Srt out) (x : It) (k v : Int) : lat1 k v ((out.filter (P8 k v)).getLast?) x = ((insT out x).filter (P8 k v)).getLast? := by
  obtain ⟨A, B, e, e2, hA, hB⟩ := insT_parts out x h
  rw [e2, e]
  unfold lat1
  by_cases p : P8 k v x = true
  · have hp := P8_iff.1 p
    rw [List.filter_append, List.filter_append, List.filter_cons_of_pos p]
    by_cases hb : B.filter (P8 k v) = []
    · rw [hb, List.append_nil, List.getLast?_append]
      rw [if_pos]
      · rfl
      · refine ⟨hp.1, hp.2, ?_⟩
        cases hz : (A.filter (P8 k v)).getLast? with
        | none => rfl
        | some z =>
          have hm := List.mem_of_getLast? hz
          obtain ⟨hm1, hm2⟩ := List.mem_filter.1 hm
          have := hA z hm1
          have := P8_iff.1 hm2
          simp only [Option.all_some, decide_eq_true_eq]
          unfold leT at *; omega
    · obtain ⟨z, hz⟩ := Option.isSome_iff_exists.1 (show ((B.filter (P8 k v)).getLast?).isSome = true by rw [← Option.ne_none_iff_isSome, Ne, List.getLast?_eq_none_iff]; exact hb)
      have hm := List.mem_of_getLast? hz
      obtain ⟨hm1, hm2⟩ := List.mem_filter.1 hm
      have h1 := hB z hm1
      have h2 := P8_iff.1 hm2
      have e1 : (A.filter (P8 k v) ++ B.filter (P8 k v)).getLast? = some z := by rw [List.getLast?_append, hz]; rfl
      have e2 : (A.filter (P8 k v) ++ x :: B.filter (P8 k v)).getLast? = some z := by
        rw [List.getLast?_append, List.getLast?_cons, hz]; rfl
      rw [e1, e2, if_neg]
      rintro ⟨-, -, h3⟩
      simp only [Option.all_some, decide_eq_true_eq] at h3
      unfold ltT at *; omega
  · rw [if_neg (fun hh => p (P8_iff.2 ⟨hh.1, hh.2.1⟩)), List.filter_append, List.filter_append, List.filter_cons_of_neg p]
theorem latT_eq (l : List It) (k v : Int) : latT l k v = ((sortT l).filter (P8 k v)).getLast? := by
  suffices h : ∀ (l out : List It), Srt out → l.foldl (lat1 k v) ((out.filter (P8 k v)).getLast?) = ((l.foldl insT out).filter (P8 k v)).getLast? from h l [] List.Pairwise.nil
  intro l
  induction l with
  | nil => intro out h; rfl
  | cons x l ih => intro out h; rw [List.foldl_cons, lat1_eq h, ih _ (insT_srt h x), List.foldl_cons]
theorem latT_srt {s : List It} (h : Srt s) (k v : Int) : latT s k v = (s.filter (P8 k v)).getLast? := by rw [latT_eq, sortT_of h]
theorem keepS_sub (vs : List Int) : ∀ s, (keepS vs s).Sublist s
  | [] => List.Sublist.refl _
  | x :: r => by
    rw [keepS_cons]; split
    · exact (keepS_sub vs r).cons_cons x
    · exact (keepS_sub vs r).cons x
theorem sub_srt {a b : List It} (h : Srt b) (s : a.Sublist b) : Srt a := List.Pairwise.sublist s h
theorem keepT_srt (l : List It) (vs : List Int) : Srt (keepT l vs) := sub_srt (sortT_srt l) (keepS_sub vs _)
theorem keepsB_iff {x : It} {nx : Option It} {vs : List Int} : keepsB x nx vs = true ↔ (∀ y, nx = some y → y.k ≠ x.k) ∨ ∃ v ∈ vs, x.v ≤ v ∧ ∀ y, nx = some y → y.k ≠ x.k ∨ v < y.v := by
  unfold keepsB
  cases nx with
  | none => simp
  | some y =>
    simp only [Option.all_some, Option.any_some, Bool.or_eq_true, bne_iff_ne, List.any_eq_true, Bool.and_eq_true, decide_eq_true_eq, Option.some.injEq, forall_eq']
theorem keepS_lat {vs : List Int} {k v : Int} : ∀ {s : List It}, Srt s → (v ∈ vs ∨ ∀ x ∈ s, x.v ≤ v) → ((keepS vs s).filter (P8 k v)).getLast? = (s.filter (P8 k v)).getLast?
  | [], _, _ => rfl
  | x :: r, h, hv => by
    have ih := keepS_lat (k := k) (srt_cons.1 h).2 (hv.imp id (fun a y hy => a y (List.mem_cons_of_mem _ hy)))
    rw [keepS_cons]
    by_cases hk : keepsB x r.head? vs = true
    · rw [if_pos hk]
      by_cases p : P8 k v x = true
      · rw [List.filter_cons_of_pos p, List.filter_cons_of_pos p, List.getLast?_cons, List.getLast?_cons, ih]
      · rw [List.filter_cons_of_neg p, List.filter_cons_of_neg p, ih]
    · rw [if_neg hk, ih]
      by_cases p : P8 k v x = true
      · rw [List.filter_cons_of_pos p]
        rw [keepsB_iff] at hk
        cases r with
        | nil => exact absurd (Or.inl (by simp)) hk
        | cons y r =>
          have hpx := P8_iff.1 p
          have hyk : y.k = x.k := Classical.byContradiction fun c => hk (Or.inl (fun z hz => by cases hz; exact c))
          have hyv : y.v ≤ v := by
            rcases hv with hv | hv
            · refine Classical.byContradiction fun c => hk (Or.inr ⟨v, hv, hpx.2, fun z hz => ?_⟩)
              cases hz; right; omega
            · exact hv y (by simp)
          have py : P8 k v y = true := P8_iff.2 ⟨by omega, hyv⟩
          rw [List.filter_cons_of_pos py]
          simp [List.getLast?_cons]
      · rw [List.filter_cons_of_neg p]
/-- What is kept tells what all of it told. -/
theorem keep_lat (l : List It) {vs : List Int} {k v : Int} (hv : v ∈ vs ∨ ∀ x ∈ l, x.v ≤ v) : latT (keepT l vs) k v = latT l k v := by
  rw [latT_srt (keepT_srt l vs), latT_eq]
  exact keepS_lat (sortT_srt l) (hv.imp id (fun a x hx => a x (mem_sortT.1 hx)))
theorem keepT_length (l : List It) (vs : List Int) : (keepT l vs).length ≤ l.length := by
  have := (keepS_sub vs (sortT l)).length_le; rw [sortT_length] at this; exact this
theorem keepsB_sub {x : It} {r r' : List It} {vs : List Int} (h : Srt (x :: r)) (hs : r'.Sublist r) (hk : keepsB x r.head? vs = true) : keepsB x r'.head? vs = true := by
  rw [keepsB_iff] at *
  cases r with
  | nil => cases List.eq_nil_of_sublist_nil hs; exact hk
  | cons y r =>
    have hz : ∀ z, r'.head? = some z → leT y z := fun z hz => by
      have : z ∈ y :: r := hs.subset (List.mem_of_mem_head? hz)
      rcases List.mem_cons.1 this with rfl | hm
      · exact leT_refl _
      · exact (srt_cons.1 (srt_cons.1 h).2).1 z hm
    have hxy := (srt_cons.1 h).1 y (by simp)
    rcases hk with hk | ⟨v, hv, hxv, hk⟩
    · left; intro z hh
      have := hz z hh; have := hk y rfl
      unfold leT at *; omega
    · right; refine ⟨v, hv, hxv, fun z hh => ?_⟩
      have := hz z hh; have := hk y rfl
      unfold leT at *; omega
theorem keepS_again {vs : List Int} : ∀ {s : List It}, Srt s → keepS vs (keepS vs s) = keepS vs s
  | [], _ => rfl
  | x :: r, h => by
    have ih := keepS_again (vs := vs) (srt_cons.1 h).2
    rw [keepS_cons]
    by_cases hk : keepsB x r.head? vs = true
    · rw [if_pos hk, keepS_cons, if_pos (keepsB_sub h (keepS_sub vs r) hk), ih]
    · rw [if_neg hk, ih]
theorem keep_again (l : List It) (vs : List Int) : keepT (keepT l vs) vs = keepT l vs := by
  unfold keepT; rw [sortT_of (sub_srt (sortT_srt l) (keepS_sub vs _)), keepS_again (sortT_srt l)]
/-- Each of them is asked for. -/
def Asked (vs : List Int) : List It → Prop
  | [] => True
  | x :: r => keepsB x r.head? vs = true ∧ Asked vs r
theorem asked_keepS {vs : List Int} : ∀ {s : List It}, Srt s → Asked vs (keepS vs s)
  | [], _ => trivial
  | x :: r, h => by
    have ih := asked_keepS (vs := vs) (srt_cons.1 h).2
    rw [keepS_cons]
    by_cases hk : keepsB x r.head? vs = true
    · rw [if_pos hk]; exact ⟨keepsB_sub h (keepS_sub vs r) hk, ih⟩
    · rw [if_neg hk]; exact ih
theorem asked_keep (l : List It) (vs : List Int) : Asked vs (keepT l vs) := asked_keepS (sortT_srt l)
theorem asked_lt {vs : List Int} : ∀ {s : List It}, Srt s → Asked vs s → s.Pairwise ltT
  | [], _, _ => List.Pairwise.nil
  | [x], _, _ => by simp
  | x :: y :: r, h, ha => by
    have ih := asked_lt (srt_cons.1 h).2 ha.2
    have h1 : ltT x y := by
      have hxy := (srt_cons.1 h).1 y (by simp)
      rcases keepsB_iff.1 ha.1 with hk | ⟨v, hv, hxv, hk⟩
      · have := hk y rfl; unfold leT ltT at *; omega
      · have := hk y rfl; unfold leT ltT at *; omega
    refine List.pairwise_cons.2 ⟨fun z hz => ?_, ih⟩
    rcases List.mem_cons.1 hz with rfl | hz
    · exact h1
    · have := (List.pairwise_cons.1 ih).1 z hz; unfold ltT at *; omega
theorem asked_at {vs : List Int} {s : List It} {A B : List It} {x : It} (e : s = A ++ x :: B) (h : Asked vs s) : keepsB x B.head? vs = true := by
  subst e
  induction A with
  | nil => exact h.1
  | cons a A ih => exact ih h.2
/-- Without one of them another is told at a version asked for, or at the greatest one. -/
theorem keep_least {vs : List Int} {s A B : List It} {x : It} {M : Int} (hs : Srt s) (ha : Asked vs s) (e : s = A ++ x :: B) (hM : x.v ≤ M) :
    ∃ v ∈ vs ++ [M], latT s x.k v = some x ∧ latT (A ++ B) x.k v ≠ some x := by
  have hlt := asked_lt hs ha
  have hk := asked_at e ha
  have hAB : Srt (A ++ B) := sub_srt hs (by rw [e]; exact List.Sublist.append (List.Sublist.refl _) (List.sublist_cons_self _ _))
  have hlt' := hlt
  rw [e, List.pairwise_append] at hlt'
  obtain ⟨hA, hB, hABx⟩ := hlt'
  have hB' := List.pairwise_cons.1 hB
  have main : ∀ v, x.v ≤ v → (∀ y ∈ B, P8 x.k v y = false) → latT s x.k v = some x ∧ latT (A ++ B) x.k v ≠ some x := by
    intro v hxv hy
    have hB0 : B.filter (P8 x.k v) = [] := by rw [List.filter_eq_nil_iff]; intro y h1; rw [hy y h1]; simp
    have px : P8 x.k v x = true := P8_iff.2 ⟨rfl, hxv⟩
    constructor
    · rw [latT_srt hs, e, List.filter_append, List.filter_cons_of_pos px, hB0]; simp
    · rw [latT_srt hAB, List.filter_append, hB0, List.append_nil]
      intro hc
      have hm := List.mem_of_getLast? hc
      have := hABx x (List.mem_filter.1 hm).1 x (by simp)
      unfold ltT at this; omega
  rcases keepsB_iff.1 hk with h1 | ⟨v, hv, hxv, h1⟩
  · refine ⟨M, by simp, main M hM fun y hy => ?_⟩
    cases B with
    | nil => simp at hy
    | cons z B =>
      have hz := h1 z rfl
      have h2 := hB'.1 z (by simp)
      have h3 : leT z y := by
        rcases List.mem_cons.1 hy with rfl | hy
        · exact leT_refl _
        · exact ltT_le ((List.pairwise_cons.1 hB'.2).1 y hy)
      rw [Bool.eq_false_iff]; intro hp
      have := P8_iff.1 hp
      unfold leT ltT at *; omega
  · refine ⟨v, by simp [hv], main v hxv fun y hy => ?_⟩
    cases B with
    | nil => simp at hy
    | cons z B =>
      have hz := h1 z rfl
      have h2 := hB'.1 z (by simp)
      have h3 : leT z y := by
        rcases List.mem_cons.1 hy with rfl | hy
        · exact leT_refl _
        · exact ltT_le ((List.pairwise_cons.1 hB'.2).1 y hy)
      rw [Bool.eq_false_iff]; intro hp
      have := P8_iff.1 hp
      unfold leT ltT at *; omega
theorem countP_more {vs : List Int} {a b v : Int} (hv : v ∈ vs) (h1 : a ≤ v) (h2 : v < b) : vs.countP (fun u => decide (b ≤ u)) + 1 ≤ vs.countP (fun u => decide (a ≤ u)) := by
  induction vs with
  | nil => simp at hv
  | cons u vs ih =>
    have hmono : vs.countP (fun u => decide (b ≤ u)) ≤ vs.countP (fun u => decide (a ≤ u)) := List.countP_mono_left fun u _ => by simp; omega
    rw [List.countP_cons, List.countP_cons]
    rcases List.mem_cons.1 hv with rfl | hv
    · simp only [decide_eq_true_eq]; rw [if_neg (by omega), if_pos h1]; omega
    · have := ih hv
      simp only [decide_eq_true_eq]
      split <;> split <;> omega
theorem few {vs : List Int} {κ : Int} : ∀ {s : List It}, Srt s → Asked vs s → s.countP (fun x => x.k == κ) ≤ vs.length + 1 ∧ (∀ x, s.head? = some x → x.k = κ → s.countP (fun x => x.k == κ) ≤ vs.countP (fun u => decide (x.v ≤ u)) + 1)
  | [], _, _ => ⟨by simp, fun x h => by simp at h⟩
  | x :: r, h, ha => by
    obtain ⟨i1, i2⟩ := few (κ := κ) (srt_cons.1 h).2 ha.2
    have main : x.k = κ → (x :: r).countP (fun x => x.k == κ) ≤ vs.countP (fun u => decide (x.v ≤ u)) + 1 := by
      intro hx
      rw [List.countP_cons_of_pos (by simpa using hx)]
      cases r with
      | nil => simp
      | cons y r =>
        have hxy := (srt_cons.1 h).1 y (by simp)
        by_cases hy : y.k = κ
        · have := i2 y rfl hy
          rcases keepsB_iff.1 ha.1 with hk | ⟨v, hv, hxv, hk⟩
          · exact absurd (hy.trans hx.symm) (hk y rfl)
          · have h1 : v < y.v := by have := hk y rfl; omega
            have := countP_more hv hxv h1
            omega
        · have : (y :: r).countP (fun x => x.k == κ) = 0 := by
            rw [List.countP_eq_zero]
            intro z hz
            have h1 : leT y z := by
              rcases List.mem_cons.1 hz with rfl | hz
              · exact leT_refl _
              · exact (srt_cons.1 (srt_cons.1 h).2).1 z hz
            simp only [beq_iff_eq]; unfold leT at *; omega
          omega
    refine ⟨?_, fun z hz hk => by cases hz; exact main hk⟩
    by_cases hx : x.k = κ
    · have := main hx
      have := List.countP_le_length (p := fun u => decide (x.v ≤ u)) (l := vs)
      omega
    · rw [List.countP_cons_of_neg (by simpa using hx)]; exact i1
theorem keep_few (l : List It) (vs : List Int) (κ : Int) : (keepT l vs).countP (fun x => x.k == κ) ≤ vs.length + 1 := (few (keepT_srt l vs) (asked_keep l vs)).1
theorem keep_more (l : List It) (vs : List Int) (m : Int) : (keepT l vs).Sublist (keepT l (vs ++ [m])) := by
  unfold keepT
  generalize sortT l = s
  induction s with
  | nil => exact List.Sublist.refl _
  | cons x r ih =>
    rw [keepS_cons, keepS_cons]
    by_cases hk : keepsB x r.head? vs = true
    · rw [if_pos hk, if_pos]
      · exact ih.cons_cons x
      · rw [keepsB_iff] at *
        exact hk.imp id fun ⟨v, h1, h2⟩ => ⟨v, by simp [h1], h2⟩
    · rw [if_neg hk]
      split
      · exact ih.cons x
      · exact ih
/-- Keys. -/
def key1 (out : List Int) (x : It) : List Int := if out.getLast? = some x.k then out else out ++ [x.k]
def keysS (s : List It) : List Int := s.foldl key1 []
def keysT (l : List It) : List Int := keysS (sortT l)
theorem keysS_spec : ∀ (r : List It) (out : List Int), Srt r → out.Pairwise (· < ·) → (∀ o ∈ out, ∀ x ∈ r, o ≤ x.k) →
    (r.foldl key1 out).Pairwise (· < ·) ∧ ∀ k, k ∈ r.foldl key1 out ↔ k ∈ out ∨ ∃ x ∈ r, x.k = k
  | [], out, _, h, _ => ⟨h, fun k => by simp⟩
  | x :: r, out, hs, h, hb => by
    have hxr := (srt_cons.1 hs).1
    rw [List.foldl_cons]
    have hout : (key1 out x).Pairwise (· < ·) ∧ (∀ k, k ∈ key1 out x ↔ k ∈ out ∨ k = x.k) := by
      unfold key1
      split
      · rename_i he
        refine ⟨h, fun k => ⟨Or.inl, fun hk => hk.elim id fun e => e ▸ List.mem_of_getLast? he⟩⟩
      · rename_i he
        refine ⟨?_, fun k => by simp⟩
        rw [List.pairwise_append]
        refine ⟨h, by simp, fun a ha b hb' => ?_⟩
        simp at hb'; subst hb'
        have hle := hb a ha x (by simp)
        rcases Int.lt_or_eq_of_le hle with h1 | h1
        · exact h1
        · exfalso
          apply he
          subst h1
          obtain ⟨A, B, rfl⟩ := List.append_of_mem ha
          cases hB : B.getLast? with
          | none => rw [List.getLast?_eq_none_iff] at hB; subst hB; simp
          | some z =>
            have hz := List.mem_of_getLast? hB
            have h2 := (List.pairwise_append.1 h).2.1
            have h3 := (List.pairwise_cons.1 h2).1 z hz
            have h4 := hb z (by simp [hz]) x (by simp)
            omega
    obtain ⟨i1, i2⟩ := keysS_spec r (key1 out x) (srt_cons.1 hs).2 hout.1 (fun o ho y hy => by
      rcases (hout.2 o).1 ho with ho | rfl
      · exact hb o ho y (by simp [hy])
      · have := hxr y hy; unfold leT at this; omega)
    refine ⟨i1, fun k => ?_⟩
    rw [i2, hout.2]
    simp only [List.mem_cons, exists_eq_or_imp]
    constructor
    · rintro ((h | h) | h)
      · exact .inl h
      · exact .inr (.inl h.symm)
      · exact .inr (.inr h)
    · rintro (h | h | h)
      · exact .inl (.inl h)
      · exact .inl (.inr h.symm)
      · exact .inr h
theorem keysT_rise (l : List It) : (keysT l).Pairwise (· < ·) := (keysS_spec _ [] (sortT_srt l) List.Pairwise.nil (by simp)).1
theorem mem_keysT {l : List It} {k : Int} : k ∈ keysT l ↔ ∃ x ∈ l, x.k = k := by
  have := (keysS_spec _ [] (sortT_srt l) List.Pairwise.nil (by simp)).2 k
  simp only [List.not_mem_nil, false_or] at this
  unfold keysT keysS
  rw [this]
  exact ⟨fun ⟨x, h, e⟩ => ⟨x, mem_sortT.1 h, e⟩, fun ⟨x, h, e⟩ => ⟨x, mem_sortT.2 h, e⟩⟩
theorem rise_eq : ∀ {a b : List Int}, a.Pairwise (· < ·) → b.Pairwise (· < ·) → (∀ k, k ∈ a ↔ k ∈ b) → a = b
  | [], [], _, _, _ => rfl
  | [], y :: b, _, _, h => absurd ((h y).2 (by simp)) (by simp)
  | x :: a, [], _, _, h => absurd ((h x).1 (by simp)) (by simp)
  | x :: a, y :: b, ha, hb, h => by
    have e : x = y := by
      rcases List.mem_cons.1 ((h x).1 (by simp)) with e | e
      · exact e
      · rcases List.mem_cons.1 ((h y).2 (by simp)) with e' | e'
        · exact e'.symm
        · have := (List.pairwise_cons.1 ha).1 _ e'; have := (List.pairwise_cons.1 hb).1 _ e; omega
    subst e
    congr 1
    refine rise_eq (List.pairwise_cons.1 ha).2 (List.pairwise_cons.1 hb).2 fun k => ?_
    have := h k
    simp only [List.mem_cons] at this
    constructor
    · intro hk
      rcases this.1 (.inr hk) with rfl | h1
      · have := (List.pairwise_cons.1 ha).1 _ hk; omega
      · exact h1
    · intro hk
      rcases this.2 (.inr hk) with rfl | h1
      · have := (List.pairwise_cons.1 hb).1 _ hk; omega
      · exact h1
theorem keep_keys (l : List It) (vs : List Int) : keysT (keepT l vs) = keysT l := by
  refine rise_eq (keysT_rise _) (keysT_rise _) fun k => ?_
  rw [mem_keysT, mem_keysT]
  constructor
  · rintro ⟨x, hx, rfl⟩
    exact ⟨x, mem_sortT.1 ((keepS_sub vs _).subset hx), rfl⟩
  · rintro ⟨x, hx, rfl⟩
    obtain ⟨M, hM⟩ : ∃ M : Int, ∀ y ∈ l, y.v ≤ M := by
      clear hx
      induction l with
      | nil => exact ⟨0, by simp⟩
      | cons a l ih => obtain ⟨M, hM⟩ := ih; exact ⟨max a.v M, fun y hy => by rcases List.mem_cons.1 hy with rfl | hy; omega; have := hM y hy; omega⟩
    have h1 := keep_lat l (vs := vs) (k := x.k) (v := M) (Or.inr hM)
    have h2 : latT l x.k M ≠ none := by
      rw [latT_eq, Ne, List.getLast?_eq_none_iff, List.filter_eq_nil_iff]
      intro h; exact h x (mem_sortT.2 hx) (P8_iff.2 ⟨rfl, hM x hx⟩)
    rw [← h1, latT_srt (keepT_srt l vs)] at h2
    obtain ⟨z, hz⟩ := Option.ne_none_iff_exists'.1 h2
    have hm := List.mem_filter.1 (List.mem_of_getLast? hz)
    exact ⟨z, hm.1, (P8_iff.1 hm.2).1⟩
/-- The last one of each slot. -/
def dl : List It → List It
  | [] => []
  | x :: r => if (r.head?.any fun y => atS x.k x.v y) = true then dl r else x :: dl r
theorem dl_cons (x : It) (r : List It) : dl (x :: r) = if (r.head?.any fun y => atS x.k x.v y) = true then dl r else x :: dl r := rfl
theorem dl_sub : ∀ s, (dl s).Sublist s
  | [] => List.Sublist.refl _
  | x :: r => by rw [dl_cons]; split; exact (dl_sub r).cons x; exact (dl_sub r).cons_cons x
theorem dl_head : ∀ s : List It, (dl s).head?.map (fun x => (x.k, x.v)) = s.head?.map (fun x => (x.k, x.v))
  | [] => rfl
  | [x] => rfl
  | x :: y :: r => by
    rw [dl_cons]; split
    · rename_i h
      rw [dl_head (y :: r)]
      simp only [List.head?_cons, Option.any_some] at h
      have := atS_iff.1 h
      simp [this.1, this.2]
    · rfl
theorem keepsB_head {x : It} {a b : Option It} {vs : List Int} (h : a.map (fun x => (x.k, x.v)) = b.map (fun x => (x.k, x.v))) : keepsB x a vs = keepsB x b vs := by
  cases a with
  | none => cases b with
    | none => rfl
    | some y => simp at h
  | some z => cases b with
    | none => simp at h
    | some y => simp at h; unfold keepsB; simp [h.1, h.2]
theorem keepS_dl (vs : List Int) : ∀ s, keepS vs (dl s) = keepS vs s
  | [] => rfl
  | x :: r => by
    have ih := keepS_dl vs r
    rw [dl_cons]
    split
    · rename_i h
      cases r with
      | nil => simp at h
      | cons y r =>
        simp only [List.head?_cons, Option.any_some] at h
        have h1 := atS_iff.1 h
        rw [ih, keepS_cons vs x, if_neg]
        rw [keepsB_iff]
        rintro (h2 | ⟨v, -, h2, h3⟩)
        · exact h2 y rfl h1.1
        · have := h3 y rfl; omega
    · rw [keepS_cons, keepS_cons, ih, keepsB_head (dl_head r)]
theorem dl_lt : ∀ {s}, Srt s → (dl s).Pairwise ltT
  | [], _ => List.Pairwise.nil
  | x :: r, h => by
    have ih := dl_lt (srt_cons.1 h).2
    rw [dl_cons]; split
    · exact ih
    · rename_i hn
      refine List.pairwise_cons.2 ⟨fun z hz => ?_, ih⟩
      cases r with
      | nil => exact absurd ((dl_sub []).subset hz) (by simp)
      | cons y r =>
        have h1 : leT x y := (srt_cons.1 h).1 y (by simp)
        have h2 : leT y z := by
          rcases List.mem_cons.1 ((dl_sub _).subset hz) with rfl | hz
          · exact leT_refl _
          · exact (srt_cons.1 (srt_cons.1 h).2).1 z hz
        have h3 : ¬ (y.k = x.k ∧ y.v = x.v) := fun c => hn (by simpa using atS_iff.2 c)
        unfold leT ltT at *; omega
theorem dl_cls (k v : Int) : ∀ {s : List It}, Srt s → (dl s).filter (atS k v) = (s.filter (atS k v)).getLast?.toList
  | [], _ => rfl
  | x :: r, h => by
    have ih := dl_cls k v (srt_cons.1 h).2
    rw [dl_cons]
    split
    · rename_i hn
      cases r with
      | nil => simp at hn
      | cons y r =>
        simp only [List.head?_cons, Option.any_some] at hn
        have h1 := atS_iff.1 hn
        rw [ih]
        by_cases p : atS k v x = true
        · have p' := atS_iff.1 p
          have py : atS k v y = true := atS_iff.2 ⟨by omega, by omega⟩
          rw [List.filter_cons_of_pos p, List.filter_cons_of_pos py]
          simp [List.getLast?_cons]
        · rw [List.filter_cons_of_neg p]
    · rename_i hn
      by_cases p : atS k v x = true
      · have p' := atS_iff.1 p
        have hr : r.filter (atS k v) = [] := by
          rw [List.filter_eq_nil_iff]
          intro z hz hp
          have hp' := atS_iff.1 hp
          cases r with
          | nil => simp at hz
          | cons y r =>
            have h1 : leT x y := (srt_cons.1 h).1 y (by simp)
            have h2 : leT y z := by
              rcases List.mem_cons.1 hz with rfl | hz
              · exact leT_refl _
              · exact (srt_cons.1 (srt_cons.1 h).2).1 z hz
            have h3 : ¬ (y.k = x.k ∧ y.v = x.v) := fun c => hn (by simpa using atS_iff.2 c)
            unfold leT at *; omega
        rw [List.filter_cons_of_pos p, List.filter_cons_of_pos p, ih, hr]; rfl
      · rw [List.filter_cons_of_neg p, List.filter_cons_of_neg p, ih]
theorem lt_cls {c : List It} (h : c.Pairwise ltT) (k v : Int) : (c.filter (atS k v)).length ≤ 1 := by
  have h1 : (c.filter (atS k v)).Pairwise ltT := List.Pairwise.sublist List.filter_sublist h
  have h2 : ∀ y ∈ c.filter (atS k v), y.k = k ∧ y.v = v := fun y hy => atS_iff.1 (List.mem_filter.1 hy).2
  generalize c.filter (atS k v) = t at *
  match t with
  | [] => simp
  | [_] => simp
  | a :: b :: _ =>
    have := (List.pairwise_cons.1 h1).1 b (by simp)
    have := h2 a (by simp)
    have := h2 b (by simp)
    unfold ltT at *; omega
/-- A list that holds just the last of each slot, in order. -/
theorem dl_eq {l c : List It} (h : c.Pairwise ltT) (hc : ∀ x, x ∈ c ↔ (l.filter (atS x.k x.v)).getLast? = some x) : c = dl (sortT l) := by
  refine srt_unique _ _ (h.imp ltT_le) (sub_srt (sortT_srt l) (dl_sub _)) fun k v => ?_
  rw [dl_cls k v (sortT_srt l), sortT_cls]
  have h1 := lt_cls h k v
  cases ht : c.filter (atS k v) with
  | nil =>
    cases hl : (l.filter (atS k v)).getLast? with
    | none => rfl
    | some x =>
      have hx := List.mem_filter.1 (List.mem_of_getLast? hl)
      have hp := atS_iff.1 hx.2
      have : x ∈ c := (hc x).2 (by rw [hp.1, hp.2]; exact hl)
      have : x ∈ c.filter (atS k v) := List.mem_filter.2 ⟨this, hx.2⟩
      rw [ht] at this; simp at this
  | cons x t =>
    rw [ht] at h1
    have ht0 : t = [] := by cases t with | nil => rfl | cons => simp at h1
    subst ht0
    have hx : x ∈ c.filter (atS k v) := by rw [ht]; simp
    have hx' := List.mem_filter.1 hx
    have hp := atS_iff.1 hx'.2
    have := (hc x).1 hx'.1
    rw [hp.1, hp.2] at this
    rw [this]; rfl
theorem keep_of {l c : List It} {vs : List Int} (h : c.Pairwise ltT) (hc : ∀ x, x ∈ c ↔ (l.filter (atS x.k x.v)).getLast? = some x) : keepS vs c = keepT l vs := by
  rw [dl_eq h hc, keepS_dl]; rfl
instance : Inhabited It := ⟨⟨0, 0, 0⟩⟩
/-- What compare answers. -/
def cfT (x y : It) : Int := if x.k < y.k then -1 else if y.k < x.k then 1 else if x.v < y.v then -1 else if y.v < x.v then 1 else 0
theorem cfT_lt {x y : It} : cfT x y < 0 ↔ ltT x y := by
  unfold cfT ltT
  split
  · constructor <;> (intro h; omega)
  · split
    · constructor <;> (intro h; omega)
    · split
      · constructor <;> (intro h; omega)
      · split <;> (constructor <;> (intro h; omega))
theorem not_ltT {x y : It} : ¬ ltT x y ↔ leT y x := by unfold ltT leT; omega
/-- The ranges a .. m and m .. b exchanged. -/
def rotF (f : Nat → It) (a m b t : Nat) : It := if a ≤ t ∧ t < a + (b - m) then f (t + (m - a)) else if a + (b - m) ≤ t ∧ t < b then f (t - (b - m)) else f t
structure Rot (a m b : Nat) (d d' : Array It) : Prop where
  size : d'.size = d.size
  at_ : ∀ t, d'[t]! = rotF (fun i => d[i]!) a m b t
theorem Rot.refl1 {a b : Nat} (d : Array It) (h : a ≤ b) : Rot a a b d d := ⟨rfl, fun t => by unfold rotF; split; simp; split; (exfalso; omega); rfl⟩
theorem Rot.refl2 {a b : Nat} (d : Array It) (h : a ≤ b) : Rot a b b d d := ⟨rfl, fun t => by unfold rotF; split; (exfalso; omega); split; simp; rfl⟩
theorem swp_left {a k : Nat} {d dk : Array It} (h : Rot a (a + 1) (k + 1) d dk) (ha : a ≤ k) (hk : k + 1 < d.size) : Rot a (a + 1) (k + 2) d (swp dk k (k + 1)) := by
  have hs := h.size
  refine ⟨by rw [swp_size]; exact hs, fun t => ?_⟩
  rw [swp_get dk (i := k) (j := k + 1) (by omega) (by omega), h.at_, h.at_, h.at_]
  unfold rotF
  repeat' split
  all_goals first | rfl | (exfalso; omega) | (congr 1; omega) | (congr 2; omega)
theorem swp_right {k m : Nat} {d dk : Array It} (h : Rot (k + 1) m (m + 1) d dk) (hk : k + 1 ≤ m) (hm : m < d.size) : Rot k m (m + 1) d (swp dk (k + 1) k) := by
  have hs := h.size
  refine ⟨by rw [swp_size]; exact hs, fun t => ?_⟩
  rw [swp_get dk (i := k + 1) (j := k) (by omega) (by omega), h.at_, h.at_, h.at_]
  unfold rotF
  repeat' split
  all_goals first | rfl | (exfalso; omega) | (congr 1; omega) | (congr 2; omega)
/-- n cells from a on exchanged with those from b on. -/
def swrF (f : Nat → It) (a b n t : Nat) : It := if a ≤ t ∧ t < a + n then f (t + (b - a)) else if b ≤ t ∧ t < b + n then f (t - (b - a)) else f t
structure Swr (a b n : Nat) (d d' : Array It) : Prop where
  size : d'.size = d.size
  at_ : ∀ t, d'[t]! = swrF (fun i => d[i]!) a b n t
theorem Swr.zero (a b : Nat) (d : Array It) : Swr a b 0 d d := ⟨rfl, fun t => by unfold swrF; rw [if_neg (by omega), if_neg (by omega)]⟩
theorem Swr.more {a b n : Nat} {d dk : Array It} (h : Swr a b n d dk) (hab : a + n < b) (hb : b + n < d.size) : Swr a b (n + 1) d (swp dk (a + n) (b + n)) := by
  have hs := h.size
  refine ⟨by rw [swp_size]; exact hs, fun t => ?_⟩
  rw [swp_get dk (i := a + n) (j := b + n) (by omega) (by omega), h.at_, h.at_, h.at_]
  unfold swrF
  repeat' split
  all_goals first | rfl | (exfalso; omega) | (congr 1; omega) | (congr 2; omega)
/-- What is left of a rotation, i cells against j around m. -/
structure RotTo (a m b i j : Nat) (d dk : Array It) : Prop where
  size : dk.size = d.size
  at_ : ∀ t, rotF (fun x => dk[x]!) (m - i) m (m + j) t = rotF (fun x => d[x]!) a m b t
theorem RotTo.start {a m b : Nat} (d : Array It) (h1 : a ≤ m) (h2 : m ≤ b) : RotTo a m b (m - a) (b - m) d d := ⟨rfl, fun t => by rw [show m - (m - a) = a by omega, show m + (b - m) = b by omega]⟩
theorem RotTo.gt {a m b i j : Nat} {d dk d2 : Array It} (h : RotTo a m b i j d dk) (hij : j < i) (him : i ≤ m) (s : Swr (m - i) m j dk d2) : RotTo a m b (i - j) j d d2 := by
  refine ⟨s.size.trans h.size, fun t => ?_⟩
  rw [← h.at_ t]
  unfold rotF
  simp only [s.at_, swrF]
  repeat' split
  all_goals first | rfl | (exfalso; omega) | (congr 1; omega) | (congr 2; omega)
theorem RotTo.lt {a m b i j : Nat} {d dk d2 : Array It} (h : RotTo a m b i j d dk) (hij : i < j) (him : i ≤ m) (s : Swr (m - i) (m + j - i) i dk d2) : RotTo a m b i (j - i) d d2 := by
  refine ⟨s.size.trans h.size, fun t => ?_⟩
  rw [← h.at_ t]
  unfold rotF
  simp only [s.at_, swrF]
  repeat' split
  all_goals first | rfl | (exfalso; omega) | (congr 1; omega) | (congr 2; omega)
theorem RotTo.eq {a m b i : Nat} {d dk d2 : Array It} (h : RotTo a m b i i d dk) (him : i ≤ m) (s : Swr (m - i) m i dk d2) : Rot a m b d d2 := by
  refine ⟨s.size.trans h.size, fun t => ?_⟩
  rw [← h.at_ t, s.at_]
  unfold rotF swrF
  repeat' split
  all_goals first | rfl | (exfalso; omega) | (congr 1; omega) | (congr 2; omega)
/-- Lists of a range. -/
def seg (f : Nat → It) (s n : Nat) : List It := (List.range' s n).map f
theorem seg_app (f : Nat → It) (s m n : Nat) : seg f s (m + n) = seg f s m ++ seg f (s + m) n := by
  unfold seg; rw [← List.map_append, List.range'_append_1]
theorem seg_congr {f g : Nat → It} {s s' n : Nat} (h : ∀ i, i < n → f (s + i) = g (s' + i)) : seg f s n = seg g s' n := by
  unfold seg
  apply List.ext_getElem
  · simp
  · intro i h1 h2
    simp at h1
    simp [h i h1]
theorem mem_seg {f : Nat → It} {s n : Nat} {x : It} : x ∈ seg f s n ↔ ∃ i, i < n ∧ x = f (s + i) := by
  unfold seg
  simp only [List.mem_map, List.mem_range'_1]
  constructor
  · rintro ⟨t, ⟨h1, h2⟩, rfl⟩; exact ⟨t - s, by omega, by congr 1; omega⟩
  · rintro ⟨i, h, rfl⟩; exact ⟨s + i, by omega, rfl⟩
theorem toList_seg (d : Array It) : d.toList = seg (fun i => d[i]!) 0 d.size := by
  unfold seg
  apply List.ext_getElem
  · simp
  · intro i h1 h2
    simp at h1
    simp [h1]
def Cls (d d' : Array It) : Prop := ∀ k v, d'.toList.filter (atS k v) = d.toList.filter (atS k v)
theorem filter_swap {u v : List It} (h : ∀ x ∈ u, ∀ y ∈ v, ltT y x) (k w : Int) : (v ++ u).filter (atS k w) = (u ++ v).filter (atS k w) := by
  rw [List.filter_append, List.filter_append]
  by_cases hu : u.filter (atS k w) = []
  · rw [hu]; simp
  · obtain ⟨x, hx⟩ := List.exists_mem_of_ne_nil _ hu
    have hv : v.filter (atS k w) = [] := by
      rw [List.filter_eq_nil_iff]
      intro y hy hp
      have h1 := List.mem_filter.1 hx
      have h2 := h x h1.1 y hy
      have h3 := atS_iff.1 h1.2
      have h4 := atS_iff.1 hp
      unfold ltT at h2; omega
    rw [hv]; simp
theorem rot_cls {a m b : Nat} {d d' : Array It} (h : Rot a m b d d') (ham : a ≤ m) (hmb : m ≤ b) (hb : b ≤ d.size)
    (hlt : ∀ i j, a ≤ i → i < m → m ≤ j → j < b → ltT d[j]! d[i]!) : Cls d d' := by
  intro k v
  rw [toList_seg, toList_seg, h.size]
  have e : d.size = a + ((m - a) + ((b - m) + (d.size - b))) := by omega
  have e' : d.size = a + ((b - m) + ((m - a) + (d.size - b))) := by omega
  conv => lhs; rw [e']
  conv => rhs; rw [e]
  rw [seg_app, seg_app, seg_app, seg_app, seg_app, seg_app]
  have s1 : seg (fun i => d'[i]!) 0 a = seg (fun i => d[i]!) 0 a := seg_congr fun i hi => by
    simp only [h.at_]; unfold rotF; rw [if_neg (by omega), if_neg (by omega)]
  have s2 : seg (fun i => d'[i]!) (0 + a) (b - m) = seg (fun i => d[i]!) (0 + a + (m - a)) (b - m) := seg_congr fun i hi => by
    simp only [h.at_]; unfold rotF; rw [if_pos (by omega)]; first | (congr 1; omega) | (congr 2; omega)
  have s3 : seg (fun i => d'[i]!) (0 + a + (b - m)) (m - a) = seg (fun i => d[i]!) (0 + a) (m - a) := seg_congr fun i hi => by
    simp only [h.at_]; unfold rotF; rw [if_neg (by omega), if_pos (by omega)]; first | (congr 1; omega) | (congr 2; omega)
  have s4 : seg (fun i => d'[i]!) (0 + a + (b - m) + (m - a)) (d.size - b) = seg (fun i => d[i]!) (0 + a + (m - a) + (b - m)) (d.size - b) := seg_congr fun i hi => by
    simp only [h.at_]; unfold rotF; rw [if_neg (by omega), if_neg (by omega)]; first | (congr 1; omega) | (congr 2; omega)
  rw [s1, s2, s3, s4]
  have := filter_swap (u := seg (fun i => d[i]!) (0 + a) (m - a)) (v := seg (fun i => d[i]!) (0 + a + (m - a)) (b - m)) (fun x hx y hy => by
    obtain ⟨i, hi, rfl⟩ := mem_seg.1 hx
    obtain ⟨j, hj, rfl⟩ := mem_seg.1 hy
    exact hlt _ _ (by omega) (by omega) (by omega) (by omega)) k v
  rw [List.filter_append] at this
  simp only [List.filter_append] at *
  rw [← List.append_assoc (List.filter _ (seg _ (0 + a + (m - a)) (b - m))), this, List.append_assoc]
/-- In order from a to b. -/
def SrtI (a b : Nat) (d : Array It) : Prop := ∀ i j, a ≤ i → i < j → j < b → leT d[i]! d[j]!
theorem SrtI.le {a b : Nat} {d : Array It} (h : SrtI a b d) {i j : Nat} (h1 : a ≤ i) (h2 : i ≤ j) (h3 : j < b) : leT d[i]! d[j]! := by
  by_cases e : i = j
  · subst e; exact leT_refl _
  · exact h i j h1 (by omega) h3
theorem SrtI.none {a b : Nat} {d : Array It} (h : b ≤ a + 1) : SrtI a b d := fun i j h1 h2 h3 => absurd h2 (by omega)
/-- From a to b the same items, as they stood in their classes; the others as they were. -/
structure Mrg (a b : Nat) (d d' : Array It) : Prop where
  size : d'.size = d.size
  out : ∀ t, t < a ∨ b ≤ t → d'[t]! = d[t]!
  mem : ∀ t, a ≤ t → t < b → ∃ s, a ≤ s ∧ s < b ∧ d'[t]! = d[s]!
  cls : Cls d d'
theorem Mrg.refl (a b : Nat) (d : Array It) : Mrg a b d d := ⟨rfl, fun _ _ => rfl, fun t h1 h2 => ⟨t, h1, h2, rfl⟩, fun _ _ => rfl⟩
theorem Mrg.trans {a b : Nat} {d e f : Array It} (h : Mrg a b d e) (g : Mrg a b e f) : Mrg a b d f :=
  ⟨g.size.trans h.size, fun t ht => (g.out t ht).trans (h.out t ht), fun t h1 h2 => by
    obtain ⟨s, s1, s2, e1⟩ := g.mem t h1 h2
    obtain ⟨r, r1, r2, e2⟩ := h.mem s s1 s2
    exact ⟨r, r1, r2, e1.trans e2⟩, fun k v => (g.cls k v).trans (h.cls k v)⟩
theorem Mrg.mono {a b a' b' : Nat} {d e : Array It} (h : Mrg a b d e) (ha : a' ≤ a) (hb : b ≤ b') : Mrg a' b' d e :=
  ⟨h.size, fun t ht => h.out t (by omega), fun t h1 h2 => by
    by_cases c : a ≤ t ∧ t < b
    · obtain ⟨s, s1, s2, e1⟩ := h.mem t c.1 c.2
      exact ⟨s, by omega, by omega, e1⟩
    · exact ⟨t, h1, h2, h.out t (by omega)⟩, h.cls⟩
theorem Mrg.rot {a m b : Nat} {d d' : Array It} (h : Rot a m b d d') (ham : a ≤ m) (hmb : m ≤ b) (hb : b ≤ d.size)
    (hlt : ∀ i j, a ≤ i → i < m → m ≤ j → j < b → ltT d[j]! d[i]!) : Mrg a b d d' :=
  ⟨h.size, fun t ht => by rw [h.at_]; unfold rotF; rw [if_neg (by omega), if_neg (by omega)], fun t h1 h2 => by
    rw [h.at_]; unfold rotF
    by_cases c : a ≤ t ∧ t < a + (b - m)
    · exact ⟨t + (m - a), by omega, by omega, by rw [if_pos c]⟩
    · exact ⟨t - (b - m), by omega, by omega, by rw [if_neg c, if_pos (by omega)]⟩, rot_cls h ham hmb hb hlt⟩
theorem lt_le {x y z : It} (h : ltT x y) (g : leT y z) : ltT x z := by unfold ltT leT at *; omega
theorem le_lt {x y z : It} (h : leT x y) (g : ltT y z) : ltT x z := by unfold ltT leT at *; omega
/-- One item merged into what stands behind it. -/
theorem mrg_first {a b i : Nat} {d d' : Array It} (hr : SrtI (a + 1) b d) (hi : a + 1 ≤ i) (hib : i ≤ b) (hb : b ≤ d.size)
    (h1 : i = a + 1 ∨ ltT d[i - 1]! d[a]!) (h2 : i = b ∨ ¬ ltT d[i]! d[a]!) (h : Rot a (a + 1) i d d') : SrtI a b d' ∧ Mrg a b d d' := by
  have hlt : ∀ x j, a ≤ x → x < a + 1 → a + 1 ≤ j → j < i → ltT d[j]! d[x]! := fun x j x1 x2 j1 j2 => by
    have : x = a := by omega
    subst this
    rcases h1 with h1 | h1
    · omega
    · exact le_lt (hr.le j1 (by omega) (by omega)) h1
  refine ⟨fun x y x1 xy yb => ?_, (Mrg.rot h (by omega) hi (by omega) hlt).mono (Nat.le_refl _) hib⟩
  rw [h.at_, h.at_]
  unfold rotF
  have h2' : i < b → leT d[a]! d[i]! := fun c => by rcases h2 with h2 | h2; omega; exact not_ltT.1 h2
  by_cases c1 : x < i - 1
  · rw [if_pos (by omega)]
    by_cases c2 : y < i - 1
    · rw [if_pos (by omega)]; exact hr.le (by omega) (by omega) (by omega)
    · rw [if_neg (by omega)]
      by_cases c3 : y = i - 1
      · rw [if_pos (by omega)]
        have : y - (i - (a + 1)) = a := by omega
        rw [this]; exact ltT_le (hlt a _ (Nat.le_refl _) (by omega) (by omega) (by omega))
      · rw [if_neg (by omega)]; exact hr.le (by omega) (by omega) (by omega)
  · rw [if_neg (by omega)]
    by_cases c3 : x = i - 1
    · rw [if_pos (by omega), if_neg (by omega), if_neg (by omega)]
      have : x - (i - (a + 1)) = a := by omega
      rw [this]; exact leT_trans (h2' (by omega)) (hr.le (by omega) (by omega) (by omega))
    · rw [if_neg (by omega), if_neg (by omega), if_neg (by omega)]; exact hr.le (by omega) (by omega) (by omega)
/-- One item merged into what stands ahead of it. -/
theorem mrg_last {a m i : Nat} {d d' : Array It} (hl : SrtI a m d) (hi : a ≤ i) (him : i ≤ m) (hb : m + 1 ≤ d.size)
    (h1 : i = a ∨ ¬ ltT d[m]! d[i - 1]!) (h2 : i = m ∨ ltT d[m]! d[i]!) (h : Rot i m (m + 1) d d') : SrtI a (m + 1) d' ∧ Mrg a (m + 1) d d' := by
  have hlt : ∀ x j, i ≤ x → x < m → m ≤ j → j < m + 1 → ltT d[j]! d[x]! := fun x j x1 x2 j1 j2 => by
    have : j = m := by omega
    subst this
    rcases h2 with h2 | h2
    · omega
    · exact lt_le h2 (hl.le hi x1 x2)
  refine ⟨fun x y x1 xy yb => ?_, (Mrg.rot h him (by omega) hb hlt).mono hi (Nat.le_refl _)⟩
  rw [h.at_, h.at_]
  unfold rotF
  have h1' : a < i → leT d[i - 1]! d[m]! := fun c => by rcases h1 with h1 | h1; omega; exact not_ltT.1 h1
  by_cases c1 : x < i
  · rw [if_neg (by omega), if_neg (by omega)]
    by_cases c2 : y < i
    · rw [if_neg (by omega), if_neg (by omega)]; exact hl.le (by omega) (by omega) (by omega)
    · by_cases c3 : y = i
      · rw [if_pos (by omega)]
        have : y + (m - i) = m := by omega
        rw [this]; exact leT_trans (hl.le (by omega) (show x ≤ i - 1 by omega) (by omega)) (h1' (by omega))
      · rw [if_neg (by omega), if_pos (by omega)]; exact hl.le (by omega) (by omega) (by omega)
  · by_cases c3 : x = i
    · rw [if_pos (by omega), if_neg (by omega), if_pos (by omega)]
      have : x + (m - i) = m := by omega
      rw [this]; exact ltT_le (hlt _ _ (by omega) (by omega) (by omega) (by omega))
    · rw [if_neg (by omega), if_pos (by omega), if_neg (by omega), if_pos (by omega)]; exact hl.le (by omega) (by omega) (by omega)
/-- What the search in the middle finds. -/
structure Cut (a m b mid st : Nat) (d : Array It) : Prop where
  lo : a ≤ st
  le : st ≤ mid
  lm : st ≤ m
  hi : mid + m ≤ st + b
  h1 : st = a ∨ mid + m = st + b ∨ ¬ ltT d[mid + m - st]! d[st - 1]!
  h2 : st = m ∨ st = mid ∨ ltT d[mid + m - 1 - st]! d[st]!
theorem Cut.lt {a m b mid st : Nat} {d : Array It} (c : Cut a m b mid st d) (ham : a ≤ m) (hmb : m ≤ b) (hl : SrtI a m d) (hr : SrtI m b d) :
    ∀ i j, st ≤ i → i < m → m ≤ j → j < mid + m - st → ltT d[j]! d[i]! := fun i j i1 i2 j1 j2 => by
  have := c.lo; have := c.hi; have := c.le
  rcases c.h2 with h | h | h
  · omega
  · omega
  · exact lt_le (le_lt (hr.le j1 (show j ≤ mid + m - 1 - st by omega) (by omega)) h) (hl.le c.lo i1 i2)
theorem Cut.mrg {a m b mid st : Nat} {d d1 : Array It} (c : Cut a m b mid st d) (ham : a ≤ m) (hmb : m ≤ b) (hb : b ≤ d.size) (hl : SrtI a m d) (hr : SrtI m b d) (h : Rot st m (mid + m - st) d d1) : Mrg a b d d1 :=
  have := c.lo; have := c.hi; have := c.le; have := c.lm
  (Mrg.rot h c.lm (by omega) (by omega) (c.lt ham hmb hl hr)).mono c.lo (by omega)
theorem Cut.parts {a m b mid st : Nat} {d d1 : Array It} (c : Cut a m b mid st d) (ham : a ≤ m) (hmb : m ≤ b) (hmid : mid ≤ b) (hl : SrtI a m d) (hr : SrtI m b d) (h : Rot st m (mid + m - st) d d1) :
    SrtI a st d1 ∧ SrtI st mid d1 ∧ SrtI mid (mid + m - st) d1 ∧ SrtI (mid + m - st) b d1 ∧ ∀ i j, a ≤ i → i < mid → mid ≤ j → j < b → leT d1[i]! d1[j]! := by
  have := c.lo; have := c.hi; have := c.le; have := c.lm
  have g0 : ∀ t, t < st → d1[t]! = d[t]! := fun t ht => by rw [h.at_]; unfold rotF; rw [if_neg (by omega), if_neg (by omega)]
  have g1 : ∀ t, st ≤ t → t < mid → d1[t]! = d[t + (m - st)]! := fun t h1 h2 => by rw [h.at_]; unfold rotF; rw [if_pos (by omega)]
  have g2 : ∀ t, mid ≤ t → t < mid + m - st → d1[t]! = d[t - (mid - st)]! := fun t h1 h2 => by
    rw [h.at_]; unfold rotF; rw [if_neg (by omega), if_pos (by omega)]; congr 2; omega
  have g3 : ∀ t, mid + m - st ≤ t → d1[t]! = d[t]! := fun t ht => by rw [h.at_]; unfold rotF; rw [if_neg (by omega), if_neg (by omega)]
  refine ⟨fun i j i1 i2 i3 => ?_, fun i j i1 i2 i3 => ?_, fun i j i1 i2 i3 => ?_, fun i j i1 i2 i3 => ?_, fun i j i1 i2 j1 j2 => ?_⟩
  · rw [g0 _ (by omega), g0 _ (by omega)]; exact hl.le (by omega) (by omega) (by omega)
  · rw [g1 _ (by omega) (by omega), g1 _ (by omega) (by omega)]; exact hr.le (by omega) (by omega) (by omega)
  · rw [g2 _ (by omega) (by omega), g2 _ (by omega) (by omega)]; exact hl.le (by omega) (by omega) (by omega)
  · rw [g3 _ (by omega), g3 _ (by omega)]; exact hr.le (by omega) (by omega) (by omega)
  · by_cases c1 : i < st
    · rw [g0 _ c1]
      by_cases c2 : j < mid + m - st
      · rw [g2 _ j1 c2]; exact hl.le (by omega) (by omega) (by omega)
      · rw [g3 _ (by omega)]
        rcases c.h1 with e | e | e
        · omega
        · omega
        · exact leT_trans (hl.le i1 (show i ≤ st - 1 by omega) (by omega)) (leT_trans (not_ltT.1 e) (hr.le (by omega) (by omega) (by omega)))
    · rw [g1 _ (by omega) (by omega)]
      by_cases c2 : j < mid + m - st
      · rw [g2 _ j1 c2]; exact ltT_le (c.lt ham hmb hl hr _ _ (by omega) (by omega) (by omega) (by omega))
      · rw [g3 _ (by omega)]; exact hr.le (by omega) (by omega) (by omega)
/-- Both sides merged: all is. -/
theorem mrg_both {a mid b : Nat} {d1 d2 d3 : Array It} (ham : a ≤ mid) (hmb : mid ≤ b) (hx : ∀ i j, a ≤ i → i < mid → mid ≤ j → j < b → leT d1[i]! d1[j]!)
    (s1 : SrtI a mid d2) (m1 : Mrg a mid d1 d2) (s2 : SrtI mid b d3) (m2 : Mrg mid b d2 d3) : SrtI a b d3 ∧ Mrg a b d1 d3 := by
  refine ⟨fun i j i1 ij jb => ?_, (m1.mono (Nat.le_refl _) hmb).trans (m2.mono ham (Nat.le_refl _))⟩
  by_cases c1 : j < mid
  · rw [m2.out _ (.inl (by omega)), m2.out _ (.inl c1)]; exact s1 i j i1 ij c1
  · by_cases c2 : mid ≤ i
    · exact s2 i j c2 ij jb
    · rw [m2.out _ (.inl (by omega))]
      obtain ⟨s, q1, q2, e1⟩ := m1.mem i i1 (by omega)
      obtain ⟨r, r1, r2, e2⟩ := m2.mem j (by omega) jb
      rw [e1, e2, m1.out _ (.inr r1)]
      exact hx s r q1 q2 r1 r2
theorem swp_cls {d : Array It} {j : Nat} (hj : j + 1 < d.size) (h : ltT d[j + 1]! d[j]!) : Cls d (swp d (j + 1) j) := by
  have r0 : Rot (j + 1) (j + 1) (j + 2) d d := Rot.refl1 d (by omega)
  have r1 : Rot j (j + 1) (j + 2) d (swp d (j + 1) j) := swp_right r0 (Nat.le_refl _) hj
  exact rot_cls r1 (by omega) (by omega) (by omega) fun x y x1 x2 y1 y2 => by
    have e1 : x = j := by omega
    have e2 : y = j + 1 := by omega
    subst e1; subst e2; exact h
theorem insInner_cls (a : Nat) : ∀ (j : Nat) (d : Array It), j < d.size → Cls d (insInner (fun x y => decide (cfT x y < 0)) a j d) ∧ (insInner (fun x y => decide (cfT x y < 0)) a j d).size = d.size
  | 0, d, _ => ⟨fun _ _ => rfl, rfl⟩
  | j + 1, d, hj => by
    unfold insInner
    split
    · rename_i h
      simp only [Bool.and_eq_true, decide_eq_true_eq] at h
      have h1 := swp_cls hj (cfT_lt.1 h.2)
      have h2 := insInner_cls a j (swp d (j + 1) j) (by rw [swp_size]; omega)
      exact ⟨fun k v => (h2.1 k v).trans (h1 k v), h2.2.trans (swp_size _ _ _)⟩
    · exact ⟨fun _ _ => rfl, rfl⟩
theorem insOuter_cls (a b : Nat) : ∀ (n i : Nat) (d : Array It), b - i = n → b ≤ d.size → Cls d (insOuter (fun x y => decide (cfT x y < 0)) a b i d) := by
  intro n
  induction n with
  | zero => intro i d h hb; rw [Go.Proofs.insOuter_stop _ _ _ _ _ (by omega)]; exact fun _ _ => rfl
  | succ n ih =>
    intro i d h hb
    rw [Go.Proofs.insOuter_go _ _ _ _ _ (by omega)]
    obtain ⟨h1, h2⟩ := insInner_cls a i d (by omega)
    have h3 := ih (i + 1) _ (by omega) (show b ≤ (insInner (fun x y => decide (cfT x y < 0)) a i d).size by omega)
    exact fun k v => (h3 k v).trans (h1 k v)
theorem cfT_swo : SWO (fun x y : It => decide (cfT x y < 0)) where
  irrefl x := by rw [decide_eq_false_iff_not, cfT_lt]; unfold ltT; omega
  trans x y z h1 h2 := by simp only [decide_eq_true_eq, cfT_lt] at *; unfold ltT at *; omega
  ntrans x y z h1 h2 := by simp only [decide_eq_false_iff_not, cfT_lt] at *; unfold ltT at *; omega
theorem srtI_of {a b : Nat} {d : Array It} (h : SortedIn (fun x y : It => decide (cfT x y < 0)) a b d) : SrtI a b d := fun i j h1 h2 h3 => by
  have := h i j h1 h2 h3
  simp only [decide_eq_false_iff_not, cfT_lt] at this
  exact not_ltT.1 this
theorem permIn_mem {a b : Nat} {d d' : Array It} (h : PermIn a b d d') (hb : b ≤ d.size) (t : Nat) (h1 : a ≤ t) (h2 : t < b) : ∃ s, a ≤ s ∧ s < b ∧ d'[t]! = d[s]! := by
  have hs := h.1
  have : d'[t]! ∈ (d'.extract a b).toList := by
    rw [Array.mem_toList_iff, Array.mem_extract_iff_getElem]
    exact ⟨t - a, by omega, by simp [show a + (t - a) = t by omega, show t < d'.size by omega]⟩
  have := h.2.2.mem_iff.1 this
  rw [Array.mem_toList_iff, Array.mem_extract_iff_getElem] at this
  obtain ⟨k, hk, e⟩ := this
  exact ⟨a + k, by omega, by omega, by rw [← e]; simp [show a + k < d.size by omega]⟩
theorem ins_mrg {a b : Nat} {d : Array It} (hab : a ≤ b) (hb : b ≤ d.size) : SrtI a b (insertionSort (fun x y => decide (cfT x y < 0)) d a b) ∧ Mrg a b d (insertionSort (fun x y => decide (cfT x y < 0)) d a b) := by
  obtain ⟨h1, h2⟩ := insertionSort_holds cfT_swo d a b hab hb
  exact ⟨srtI_of h2, h1.1, h1.2.1, permIn_mem h1 hb, insOuter_cls a b _ _ d rfl hb⟩
/-- In order as a whole, its classes as they stood: the sorted list. -/
theorem stable_eq {d d' : Array It} (hs : d'.size = d.size) (h : SrtI 0 d.size d') (c : Cls d d') : d'.toList = sortT d.toList := by
  refine sort_eq ?_ c
  unfold Srt
  rw [List.pairwise_iff_getElem]
  intro i j hi hj hij
  simp at hi hj
  have := h i j (by omega) hij (by omega)
  simpa [hi, hj] using this
/-- Each item's Data is its place. -/
def num (l : List It) : List It := l.mapIdx fun i x => ⟨x.k, x.v, i⟩
theorem num_length (l : List It) : (num l).length = l.length := by simp [num]
theorem num_at {l : List It} {i : Nat} {x : It} (h : l[i]? = some x) : (num l)[i]? = some ⟨x.k, x.v, i⟩ := by simp [num, h]
theorem num_step {l : List It} {i : Nat} {x : It} (h : l[i]? = some x) : ((num l).take i ++ [(⟨x.k, x.v, i⟩ : It)]) ++ l.drop (i + 1) = (num l).take (i + 1) ++ l.drop (i + 1) := by
  rw [List.take_add_one, num_at h]; rfl
theorem num_pair (l : List It) : (num l).Pairwise fun a b => a.d < b.d := by
  rw [List.pairwise_iff_getElem]
  intro i j hi hj hij
  simp [num]; exact hij
def sumd (l : List It) : Int := (l.map (·.d)).sum
theorem sumd_app (a b : List It) : sumd (a ++ b) = sumd a + sumd b := by simp [sumd]
theorem sumd_take {s : List It} {i : Nat} {x : It} (h : s[i]? = some x) : sumd (s.take (i + 1)) = sumd (s.take i) + x.d := by
  rw [List.take_add_one, h, sumd_app]; simp [sumd]
theorem insT_sum {out : List It} (h : Srt out) (x : It) : sumd (insT out x) = sumd out + x.d := by
  obtain ⟨A, B, e, e2, -, -⟩ := insT_parts out x h
  rw [e2, e]; simp [sumd]; omega
theorem sortT_sum (l : List It) : sumd (sortT l) = sumd l := by
  suffices h : ∀ (l out : List It), Srt out → sumd (l.foldl insT out) = sumd out + sumd l by
    have := h l [] List.Pairwise.nil
    simpa [sumd, sortT] using this
  intro l
  induction l with
  | nil => intro out h; simp [sumd]
  | cons x l ih => intro out h; rw [List.foldl_cons, ih _ (insT_srt h x), insT_sum h]; simp [sumd]; omega
theorem num_take_sum (l : List It) : ∀ n, n ≤ l.length → 2 * sumd ((num l).take n) = n * ((n : Int) - 1)
  | 0, _ => by simp [sumd]
  | n + 1, h => by
    have hx : l[n]? = some l[n] := List.getElem?_eq_getElem (by omega)
    rw [sumd_take (num_at hx)]
    have ih := num_take_sum l n (by omega)
    show 2 * (sumd ((num l).take n) + (n : Int)) = _
    have e : ((n + 1 : Nat) : Int) * (((n + 1 : Nat) : Int) - 1) = n * ((n : Int) - 1) + 2 * n := by
      have : ((n + 1 : Nat) : Int) = (n : Int) + 1 := by omega
      rw [this, show (n : Int) + 1 - 1 = n by omega, Int.add_mul, Int.mul_sub]; omega
    omega
theorem num_sum (l : List It) : 2 * sumd (sortT (num l)) = l.length * ((l.length : Int) - 1) := by
  rw [sortT_sum]
  have := num_take_sum l l.length (Nat.le_refl _)
  rwa [List.take_of_length_le (by rw [num_length]; exact Nat.le_refl _)] at this
theorem num_next {l : List It} {i : Nat} {a b : It} (ha : (sortT (num l))[i]? = some a) (hb : (sortT (num l))[i + 1]? = some b) : a.k < b.k ∨ a.k = b.k ∧ (a.v < b.v ∨ a.v = b.v ∧ a.d < b.d) := by
  have hs := sortT_srt (num l)
  obtain ⟨h1, rfl⟩ := List.getElem?_eq_some_iff.1 ha
  obtain ⟨h2, rfl⟩ := List.getElem?_eq_some_iff.1 hb
  have hle := (List.pairwise_iff_getElem.1 hs) i (i + 1) h1 h2 (by omega)
  have hc : ∀ k v, ((sortT (num l)).filter (atS k v)).Pairwise fun a b => a.d < b.d := fun k v => by
    rw [sortT_cls]; exact List.Pairwise.sublist List.filter_sublist (num_pair l)
  have hd := hc (sortT (num l))[i].k (sortT (num l))[i].v
  rw [List.pairwise_filter] at hd
  have := (List.pairwise_iff_getElem.1 hd) i (i + 1) h1 h2 (by omega)
  generalize (sortT (num l))[i] = a at *
  generalize (sortT (num l))[i + 1] = b at *
  unfold leT at hle
  by_cases e : a.k = b.k ∧ a.v = b.v
  · have := this (atS_iff.2 ⟨rfl, rfl⟩) (atS_iff.2 ⟨e.1.symm, e.2.symm⟩); omega
  · omega
end Go.Proofs.Yteahponbknljlaa.Mx
