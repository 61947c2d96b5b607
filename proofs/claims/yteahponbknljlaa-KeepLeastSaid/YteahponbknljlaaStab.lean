/- slices' stable sort at items, up to 40 of them; slices.Values at items. -/
import Derived.Test.YteahponbknljlaaSym
import Derived.Test.YteahponbknljlaaAppT
namespace Go.Proofs.Yteahponbknljlaa.Kp
open Go.RowKit Go.Shelf Go.Lib Go.Sort Go.Maps Go.Proofs.Yteahponbknljlaa.Ar Go.Proofs.Yteahponbknljlaa.Mx
set_option linter.unusedVariables false
set_option linter.unusedSimpArgs false
/-- slices.insertionSortCmpFunc. -/
theorem ins_any (blk off cap a b : Nat) (d0 d : Array It) (w0 w : World) (R : RowK fT 3 w0 blk off d0) (hs : d0.size = d.size) (S : SWK fT 3 w0 blk off d w) (hab : a ≤ b) (hb : b ≤ d.size) (hsz : d.size < 4611686018427387904) :
    Calls Try.prog 51 #[.slice (some ⟨blk, off, none⟩) d.size cap, .int .i64 a, .int .i64 b, .func (.func 22) #[] #[]] w fun e w' =>
      e = .returned (.tuple #[]) ∧ ∃ d', (SrtI a b d' ∧ Mrg a b d d') ∧ SWK fT 3 w0 blk off d' w' := by
  have L : SlLaysF0.n20 Try.prog Try.sortF_ren := { Try.sortF with }
  have hH := S.holds R.hblk R.hH hs.symm
  have h := AnyQ.insertionSortCmpFunc L 3 (by intro w; kernel_rfl) (by intro w; kernel_rfl) fT (fun _ => rfl) R.h1 cfT 22 #[] blk off cap a b d w (enters_of Try.func22 (by kernel_rfl) rfl) (cmpLays blk off d.size w) hH (S.lt R.hblk) hab hb hsz
  refine h.mono ?_
  rintro e w' ⟨rfl, n, os, rfl⟩
  exact ⟨rfl, _, ins_mrg hab hb, S.on R.hblk n _ os (by have := (insertionSort_holds cfT_swo d a b hab hb).1.1; simpa [ltOf] using this)⟩
/-- Behind the first loop: blocks of twenty, each in order. -/
structure Blk (n : Nat) (d dk : Array It) : Prop where
  size : dk.size = d.size
  cls : Cls d dk
  lo : SrtI 0 (min 20 n) dk
  hi : SrtI 20 n dk
structure All (n : Nat) (d dk : Array It) : Prop where
  size : dk.size = d.size
  cls : Cls d dk
  srt : SrtI 0 n dk
set_option maxHeartbeats 6400000 in
set_option maxRecDepth 1000000 in
theorem stable_any (blk off cap n : Nat) (d0 d : Array It) (w0 w : World) (R : RowK fT 3 w0 blk off d0) (hs : d0.size = d.size) (S : SWK fT 3 w0 blk off d w) (hn : d.size = n) (h40 : n ≤ 40) :
    Calls Try.prog 42 #[.slice (some ⟨blk, off, none⟩) n cap, .int .i64 n, .func (.func 22) #[] #[]] w fun e w' =>
      e = .returned (.tuple #[]) ∧ ∃ d', (d'.toList = sortT d.toList ∧ d'.size = d.size) ∧ SWK fT 3 w0 blk off d' w' := by
  have S0 : Aside (SWK fT 3 w0 blk off d w) := S
  have RR : Aside (RowK fT 3 w0 blk off d0) := R
  have HN : Aside (d.size = n) := hn
  have hn1 : d.size ≤ n := by omega
  have hn2 : n ≤ d.size := by omega
  clear S R hn
  go_enter Try.func42, Try.ntmps42
  go_wp2_with fail
  go_loopg [7, 8] 2 (fun kx s7 s8 wr => ∃ (a b k : Nat) (dk : Array It), s7 = .int .i64 (a : Nat) ∧ s8 = .int .i64 (b : Nat) ∧ 20 * k ≤ a ∧ a ≤ 20 * k ∧ a + 20 ≤ b ∧ b ≤ a + 20 ∧ a ≤ n ∧ 2 - k ≤ kx ∧ k ≤ 2 ∧ Aside (SWK fT 3 w0 blk off dk wr) ∧ Aside (Mrg 0 n d dk ∧ (1 ≤ k → SrtI 0 20 dk) ∧ (2 ≤ k → SrtI 20 40 dk)))
  case atStart => exact ⟨0, 20, 0, d, rfl, rfl, by omega, by omega, by omega, by omega, by omega, by omega, by omega, S0, Mrg.refl _ _ _, by omega, by omega⟩
  case round =>
    clear S0
    obtain ⟨a, b, k, dk, rfl, rfl, ha1, ha2, hb3, hb4, hk, hkx, hk2, S1, HW⟩ := hrel
    have hds : dk.size = d.size := HW.out.1.size
    by_cases hlt : b ≤ n
    · have hltz : (b : Int) ≤ (n : Int) := by omega
      have H := ins_any blk off cap a b d0 dk w0 wr RR.out (by omega) S1.out (by omega) (by omega) (by omega)
      rw [show dk.size = n by omega] at H
      have hk3 : k ≤ 1 := by omega
      go_wp2_with (go_at_call 51; refine H.mono ?_; rintro e w2 ⟨rfl, d1, ⟨hs1, hm1⟩, S2'⟩)
      clear H S1
      have S2 : Aside (SWK fT 3 w0 blk off d1 w2) := S2'
      have W2 : Aside (Mrg 0 n d d1 ∧ (1 ≤ k + 1 → SrtI 0 20 d1) ∧ (2 ≤ k + 1 → SrtI 20 40 d1)) := by
        refine ⟨HW.out.1.trans (hm1.mono (by omega) (by omega)), fun _ => ?_, fun h => ?_⟩
        · rcases (show k = 0 ∨ k = 1 by omega) with rfl | rfl
          · have h1 : a = 0 := by omega
            have h2 : b = 20 := by omega
            rw [h1, h2] at hs1; exact hs1
          · have h0 := HW.out.2.1 (by omega)
            exact fun i j i1 ij jb => by rw [hm1.out _ (.inl (by omega)), hm1.out _ (.inl (by omega))]; exact h0 i j i1 ij jb
        · have h1 : a = 20 := by omega
          have h2 : b = 40 := by omega
          rw [h1, h2] at hs1; exact hs1
      clear S2' hs1 hm1 HW
      go_wp2_with fail
      go_roundg (2 - (k + 1))
      case measure => omega
      case rel =>
        exact ⟨b, b + 20, k + 1, d1, rfl, by first | rfl | go_num, by omega, by omega, by omega, by omega, by omega, by omega, by omega, S2, W2⟩
    · have hltz : ¬ (b : Int) ≤ (n : Int) := by omega
      have H := ins_any blk off cap a n d0 dk w0 wr RR.out (by omega) S1.out (by omega) (by omega) (by omega)
      rw [show dk.size = n by omega] at H
      go_wp2_with fail
      refine H.mono ?_
      rintro e w2 ⟨rfl, d1, ⟨hs1, hm1⟩, S2'⟩
      clear H S1
      have S2 : Aside (SWK fT 3 w0 blk off d1 w2) := S2'
      have W2 : Aside (Blk n d d1) := by
        have hM := HW.out.1.trans (hm1.mono (Nat.zero_le a) (Nat.le_refl n))
        rcases (show k = 0 ∨ k = 1 ∨ k = 2 by omega) with rfl | rfl | rfl
        · have h1 : a = 0 := by omega
          rw [h1] at hs1
          exact ⟨hM.size, hM.cls, fun i j i1 ij jb => hs1 i j i1 ij (by omega), SrtI.none (by omega)⟩
        · have h1 : a = 20 := by omega
          have h0 := HW.out.2.1 (by omega)
          rw [h1] at hs1 hm1
          exact ⟨hM.size, hM.cls, fun i j i1 ij jb => by rw [hm1.out _ (.inl (by omega)), hm1.out _ (.inl (by omega))]; exact h0 i j i1 ij (by omega), hs1⟩
        · have h1 : a = 40 := by omega
          have h0 := HW.out.2.1 (by omega)
          have h2 := HW.out.2.2 (by omega)
          rw [h1] at hm1
          exact ⟨hM.size, hM.cls, fun i j i1 ij jb => by rw [hm1.out _ (.inl (by omega)), hm1.out _ (.inl (by omega))]; exact h0 i j i1 ij (by omega), fun i j i1 ij jb => by rw [hm1.out _ (.inl (by omega)), hm1.out _ (.inl (by omega))]; exact h2 i j i1 ij (by omega)⟩
      clear S2' hs1 hm1 HW
      go_wp2_with fail
      by_cases h20 : n ≤ 20
      · have h20z : ¬ (20 : Int) < (n : Int) := by omega
        go_loopg [6] 0 (fun kx s6 wr => s6 = .int .i64 20 ∧ Aside (SWK fT 3 w0 blk off d1 wr))
        case atStart => exact ⟨rfl, S2⟩
        case round =>
          clear S2
          obtain ⟨rfl, S3⟩ := hrel
          go_wp2_with fail
          go_end0
          refine ⟨rfl, d1, ⟨stable_eq W2.out.size ?_ W2.out.cls, W2.out.size⟩, S3.out⟩
          rw [HN.out]
          exact fun i j i1 ij jb => W2.out.lo i j i1 ij (by omega)
      · go_loopg [6] 1 (fun kx s6 wr => ∃ dk : Array It, Aside (SWK fT 3 w0 blk off dk wr) ∧ ((s6 = .int .i64 20 ∧ 1 ≤ kx ∧ Aside (Blk n d dk)) ∨ (s6 = .int .i64 40 ∧ Aside (All n d dk))))
        case atStart => exact ⟨d1, S2, .inl ⟨rfl, by omega, W2⟩⟩
        case round =>
          clear S2 W2
          obtain ⟨dk, S3, ⟨rfl, hkx1, W3⟩ | ⟨rfl, W3⟩⟩ := hrel
          · have h20z : (20 : Int) < (n : Int) := by omega
            have hds3 : dk.size = d.size := W3.out.size
            by_cases h40n : n < 40
            · have h40z : ¬ (40 : Int) ≤ (n : Int) := by omega
              go_wp2_with fail
              go_loopg [7, 8] 0 (fun kx s7 s8 wr => s7 = .int .i64 0 ∧ s8 = .int .i64 40 ∧ Aside (SWK fT 3 w0 blk off dk wr))
              case atStart => exact ⟨rfl, rfl, S3⟩
              case round =>
                clear S3
                obtain ⟨rfl, rfl, S4⟩ := hrel
                have H := sym_any blk off cap d0 w0 RR.out (by omega) n 0 20 n dk wr (by omega) (by omega) (by omega) (by omega) (by omega) (fun i j i1 ij jb => W3.out.lo i j i1 ij (by omega)) W3.out.hi S4.out
                unfold Mg at H
                rw [show dk.size = n by omega, show ((0 : Nat) : Int) = 0 from rfl, show ((20 : Nat) : Int) = 20 from rfl] at H
                go_wp2_with fail
                refine H.mono ?_
                rintro e w4 ⟨rfl, d4, ⟨hs4, hm4⟩, S5'⟩
                clear H S4
                have S5 : Aside (SWK fT 3 w0 blk off d4 w4) := S5'
                have W5 : Aside (All n d d4) := ⟨hm4.size.trans hds3, fun k v => (hm4.cls k v).trans (W3.out.cls k v), hs4⟩
                clear S5' hs4 hm4
                go_wp2_with fail
                go_roundg 0
                case measure => omega
                case rel => exact ⟨d4, S5, .inr ⟨rfl, W5⟩⟩
            · have h40z : (40 : Int) ≤ (n : Int) := by omega
              have h80z : ¬ (80 : Int) ≤ (n : Int) := by omega
              have h60z : ¬ (60 : Int) < (n : Int) := by omega
              go_wp2_with fail
              go_loopg [7, 8] 1 (fun kx s7 s8 wr => ∃ dk : Array It, Aside (SWK fT 3 w0 blk off dk wr) ∧ ((s7 = .int .i64 0 ∧ s8 = .int .i64 40 ∧ 1 ≤ kx ∧ Aside (Blk n d dk)) ∨ (s7 = .int .i64 40 ∧ s8 = .int .i64 80 ∧ Aside (All n d dk))))
              case atStart => exact ⟨dk, S3, .inl ⟨rfl, rfl, by omega, W3⟩⟩
              case round =>
                clear S3 W3 hds3
                obtain ⟨dk, S4, ⟨rfl, rfl, hkx2, W4⟩ | ⟨rfl, rfl, W4⟩⟩ := hrel
                · have hds4 : dk.size = d.size := W4.out.size
                  have H := sym_any blk off cap d0 w0 RR.out (by omega) 40 0 20 40 dk wr (by omega) (by omega) (by omega) (by omega) (by omega) (fun i j i1 ij jb => W4.out.lo i j i1 ij (by omega)) (fun i j i1 ij jb => W4.out.hi i j i1 ij (by omega)) S4.out
                  unfold Mg at H
                  rw [show dk.size = n by omega, show ((0 : Nat) : Int) = 0 from rfl, show ((20 : Nat) : Int) = 20 from rfl, show ((40 : Nat) : Int) = 40 from rfl] at H
                  go_wp2_with fail
                  refine H.mono ?_
                  rintro e w4 ⟨rfl, d4, ⟨hs4, hm4⟩, S5'⟩
                  clear H S4
                  have S5 : Aside (SWK fT 3 w0 blk off d4 w4) := S5'
                  have W5 : Aside (All n d d4) := ⟨hm4.size.trans hds4, fun k v => (hm4.cls k v).trans (W4.out.cls k v), fun i j i1 ij jb => hs4 i j i1 ij (by omega)⟩
                  clear S5' hs4 hm4
                  go_wp2_with fail
                  go_roundg 0
                  case measure => omega
                  case rel => exact ⟨d4, S5, .inr ⟨rfl, rfl, W5⟩⟩
                · go_wp2_with fail
                  go_roundg 0
                  case measure => omega
                  case rel => exact ⟨dk, S4, .inr ⟨rfl, W4⟩⟩
          · have h40z : ¬ (40 : Int) < (n : Int) := by omega
            go_wp2_with fail
            go_end0
            refine ⟨rfl, dk, ⟨stable_eq W3.out.size ?_ W3.out.cls, W3.out.size⟩, S3.out⟩
            rw [HN.out]
            exact W3.out.srt
end Go.Proofs.Yteahponbknljlaa.Kp
