/- The reference's map: what any op does to it; and what a map is asked to do. -/
import Derived.Test.YtjhgjpkiinkaeaaRGet
import Derived.Test.YtjhgjpkiinkaeaaRScan
namespace Go.Proofs.Ytjhgjpkiinkaeaa.Mp
open Go.RowKit Go.Proofs.Ytjhgjpkiinkaeaa.Ar Go.Proofs.Ytjhgjpkiinkaeaa.Og
set_option linter.unusedVariables false
set_option linter.unusedSimpArgs false
def ans (V W : Nat → Int) (k ky v t : Int) : An := if fit k ky v t = true then doA V W k ky v t else badA
def nxV (V : Nat → Int) (k ky v t : Int) : Nat → Int := if fit k ky v t = true then doV V k ky v else V
def nxW (W : Nat → Int) (k ky v t wr : Int) : Nat → Int := if fit k ky v t = true then doW W k ky wr else W
theorem fit_key {k ky v t : Int} (h : fit k ky v t = true) : (k = 1 ∨ k = 2 ∨ k = 3 ∨ k = 4) ∧ 0 ≤ ky ∧ ky ≤ 63 ∧ (k = 4 → 0 ≤ t ∧ t ≤ 63) ∧ (k = 1 → 0 ≤ v ∧ v ≤ 1048576) := by
  have hk : k = 1 ∨ k = 2 ∨ k = 3 ∨ k = 4 := by
    by_cases h1 : k = 1
    · exact .inl h1
    by_cases h2 : k = 2
    · exact .inr (.inl h2)
    by_cases h3 : k = 3
    · exact .inr (.inr (.inl h3))
    by_cases h4 : k = 4
    · exact .inr (.inr (.inr h4))
    rw [Ro.fit0 k ky v t ⟨h1, h2, h3, h4⟩] at h; cases h
  refine ⟨hk, ?_⟩
  rcases hk with rfl | rfl | rfl | rfl
  all_goals
    unfold fit inF most at h
    simp at h
    omega
theorem doR_any (p : Nat) (V W : Nat → Int) (k ky v t wr : Int) (w : World) (R : Rm w p V W) :
    Calls Try.prog 13 #[.pointer (some ⟨p, 0, none⟩), .agg #[.int .i64 k, .int .i64 ky, .int .i64 v, .int .i64 t], .int .i64 wr] w fun e w' => (∃ pv, e = .returned (ansv (ans V W k ky v t) pv) ∧ PairRow w' pv (ans V W k ky v t).pairs ∧ ∀ g, g ∈ pv.ownBlock.toList → w.heap.size ≤ g) ∧ Rm w' p (nxV V k ky v t) (nxW W k ky v t wr) ∧ Fr [p] w w' := by
  cases h : fit k ky v t with
  | false =>
    have e1 : ans V W k ky v t = badA := by unfold ans; rw [h]; rfl
    have e2 : nxV V k ky v t = V := by unfold nxV; rw [h]; rfl
    have e3 : nxW W k ky v t wr = W := by unfold nxW; rw [h]; rfl
    rw [e1, e2, e3]
    refine (doR_bad p k ky v t wr w h).mono ?_
    rintro e w' ⟨rfl, F⟩
    exact ⟨⟨_, rfl, no_pairs w', by simp [Value.ownBlock]⟩, R.kept F (by simp), F.mono (by simp)⟩
  | true =>
    obtain ⟨hk, k1, k2, k3, -⟩ := fit_key h
    have e1 : ans V W k ky v t = doA V W k ky v t := by unfold ans; rw [h]; rfl
    have e2 : nxV V k ky v t = doV V k ky v := by unfold nxV; rw [h]; rfl
    have e3 : nxW W k ky v t wr = doW W k ky wr := by unfold nxW; rw [h]; rfl
    rw [e1, e2, e3]
    obtain ⟨n, rfl⟩ : ∃ n : Nat, ky = n := ⟨ky.toNat, by omega⟩
    have hn : n < 64 := by omega
    rcases hk with rfl | rfl | rfl | rfl
    · refine (doR_put p n V W v t wr w hn h R).mono ?_
      rintro e w' ⟨rfl, R', F⟩
      exact ⟨⟨_, rfl, no_pairs w', by simp [Value.ownBlock]⟩, R', F⟩
    · refine (doR_del p n V W v t wr w hn h R).mono ?_
      rintro e w' ⟨rfl, R', F⟩
      exact ⟨⟨_, rfl, no_pairs w', by simp [Value.ownBlock]⟩, R', F⟩
    · refine (doR_get p n V W v t wr w hn h R).mono ?_
      rintro e w' ⟨rfl, F⟩
      exact ⟨⟨_, rfl, no_pairs w', by simp [Value.ownBlock]⟩, R.kept F (by simp), F.mono (by simp)⟩
    · obtain ⟨m, rfl⟩ : ∃ m : Nat, t = m := ⟨t.toNat, by have := k3 rfl; omega⟩
      have hm : m < 64 := by have := k3 rfl; omega
      refine (doR_scan p n m V W v wr w hn hm h R).mono ?_
      rintro e w' ⟨⟨pv, rfl, hp, hg⟩, F⟩
      exact ⟨⟨pv, rfl, hp, hg⟩, R.kept F (by simp), F.mono (by simp)⟩
/-- What a map is asked to do, whatever it is made of: at block q, made of blocks B, it holds V and W. -/
structure MapC (Mo : World → Nat → List Nat → (Nat → Int) → (Nat → Int) → Prop) : Prop where
  kept : ∀ {S : List Nat} {w w' : World} {q : Nat} {B : List Nat} {V W : Nat → Int}, Mo w q B V W → Fr S w w' → (∀ b, b ∈ B → b ∉ S) → Mo w' q B V W
  lt : ∀ {w : World} {q : Nat} {B : List Nat} {V W : Nat → Int}, Mo w q B V W → ∀ b, b ∈ B → b < w.heap.size
  new : ∀ w, Calls Try.prog 9 #[] w fun e w' => ∃ q B, e = .returned (.pointer (some ⟨q, 0, none⟩)) ∧ (∀ b, b ∈ B → w.heap.size ≤ b) ∧ Mo w' q B none1 none1 ∧ Fr [] w w'
  do_ : ∀ (q : Nat) (B : List Nat) (V W : Nat → Int) (k ky v t wr : Int) (w : World), (Lit.int .i64 k).wf = true → (Lit.int .i64 wr).wf = true → Mo w q B V W →
    Calls Try.prog 12 #[.pointer (some ⟨q, 0, none⟩), .agg #[.int .i64 k, .int .i64 ky, .int .i64 v, .int .i64 t], .int .i64 wr] w fun e w' => ∃ pv B', e = .returned (ansv (ans V W k ky v t) pv) ∧ PairRow w' pv (ans V W k ky v t).pairs ∧ (∀ g, g ∈ pv.ownBlock.toList → w.heap.size ≤ g ∧ g ∉ B') ∧ Mo w' q B' (nxV V k ky v t) (nxW W k ky v t wr) ∧ (∀ b, b ∈ B' → b ∈ B ∨ w.heap.size ≤ b) ∧ Fr B w w'
  get : ∀ (q : Nat) (B : List Nat) (V W : Nat → Int) (n : Nat) (w : World), n < 64 → Mo w q B V W →
    Calls Try.prog 16 #[.pointer (some ⟨q, 0, none⟩), .int .i64 n] w fun e w' => e = .returned (.tuple #[.int .i64 (max 0 (V n)), .bool (decide (0 ≤ V n))]) ∧ Fr [] w w'
  writer : ∀ (q : Nat) (B : List Nat) (V W : Nat → Int) (n : Nat) (w : World), n < 64 → Mo w q B V W →
    Calls Try.prog 17 #[.pointer (some ⟨q, 0, none⟩), .int .i64 n] w fun e w' => e = .returned (.int .i64 (W n)) ∧ Fr [] w w'
  all : ∀ (q : Nat) (B : List Nat) (V W : Nat → Int) (w : World), Mo w q B V W →
    Calls Try.prog 15 #[.pointer (some ⟨q, 0, none⟩)] w fun e w' => (∃ pv, e = .returned pv ∧ PairRow w' pv (scan V 0 63) ∧ ∀ g, g ∈ pv.ownBlock.toList → w.heap.size ≤ g) ∧ Fr [] w w'
  copy : ∀ (q : Nat) (B : List Nat) (V W : Nat → Int) (w : World), Mo w q B V W →
    Calls Try.prog 19 #[.pointer (some ⟨q, 0, none⟩)] w fun e w' => ∃ q' B', e = .returned (.pointer (some ⟨q', 0, none⟩)) ∧ (∀ b, b ∈ B' → w.heap.size ≤ b) ∧ Mo w' q' B' V W ∧ Fr [] w w'
end Go.Proofs.Ytjhgjpkiinkaeaa.Mp
