/-
  slices.breakPatternsOrdered of uint64: its elements changed about.
  The bounds lie within the row.
-/
import Derived.Test.YtkppidcamhbddaaSoI
namespace Go.Proofs.Ytkppidcamhbddaa
set_option maxRecDepth 10000
open Go.RowKit

set_option linter.unusedVariables false
theorem Hid.mk'' {p : Prop} (h : p) : Hid p := h
theorem anat (Y M : Nat) (hY : Y < 18446744073709551616) (hM : 0 < M) (hM2 : M < 4611686018427387904) : ∃ O : Nat, bits .and .u64 (Y : Int) ((M : Int) - 1) = (O : Int) ∧ O < M := by
  refine ⟨Y &&& (M - 1), ?_, ?_⟩
  · rw [show ((M : Int) - 1) = ((M - 1 : Nat) : Int) by omega]
    exact bits_and_u64_nat Y (M - 1) hY (by omega)
  · have : Y &&& (M - 1) ≤ M - 1 := Nat.and_le_right
    omega
set_option maxHeartbeats 8000000 in
theorem brk_ok (g o cap a b : Nat) (T : TypeId) (R : List Value × List Value) (d : Array Int) (w : World) (hH : Sx g o T R d w) (hab : 12 < b - a) (hb : b ≤ d.size) (hsz : d.size < 1152921504606846976) :
    Calls Try.prog 28 #[.slice (some ⟨g, o, none⟩) d.size cap, .int .i64 a, .int .i64 b] w fun e w' =>
      e = .returned (.tuple #[]) ∧ ∃ d', Sort.PermIn a b d d' ∧ Sx g o T R d' w' ∧ Kp [g] w w' := by
  obtain ⟨L, hL⟩ : ∃ L, L = b - a := ⟨_, rfl⟩
  have hLz : (b : Int) - (a : Int) = (L : Int) := by omega
  obtain ⟨q, hq⟩ : ∃ q, q = L / 4 := ⟨_, rfl⟩
  have hq1 : (L : Int).tdiv 4 = (q : Int) := by rw [Int.tdiv_eq_ediv_of_nonneg (by omega)]; omega
  have hq2 : (L : Int) / 4 = (q : Int) := by omega
  have hq3 : 4 * q ≤ L ∧ 3 ≤ q ∧ a + L = b ∧ L < 1152921504606846976 := by omega
  have hL8 : (8 : Int) ≤ (L : Int) := by omega
  have hLw : IntKind.u64.wrap (L : Int) = (L : Int) := by rw [IntKind.wrap_u64]; omega
  clear hq hL hab
  have hgl := hH.lt
  obtain ⟨n, hn⟩ : ∃ n, d.size = n := ⟨_, rfl⟩
  rw [hn] at hb hsz ⊢
  have HSZ : Hid (d.size = n) := hn
  have hpw := fun v => pow_ok L (by omega) (by omega) v
  have hW : Blk w.heap.size #[.int .u64 (L : Int)] 62 (w.alloc (.cells #[.int .u64 (L : Int)] 62)) := blk_new w _ _
  have hB : Below w.heap.size w (w.alloc (.cells #[.int .u64 (L : Int)] 62)) := below_box w _
  obtain ⟨P, hP⟩ : ∃ P, w.heap.size = P := ⟨_, rfl⟩
  rw [hP] at hgl hW hB
  have hg : P ≠ g := by omega
  have HP : Hid (w.heap.size = P) := hP
  clear hn
  go_enter Try.func28, Try.ntmps28
  go_wp2_with fail
  clear hP
  generalize w.alloc (.cells #[.int .u64 (L : Int)] 62) = W at hW hB ⊢
  refine (hpw W).mono ?_
  rintro e w1 ⟨M, rfl, hM1, hM2, rfl⟩
  have hwz : 1 ≤ (M : Int) := by omega
  have hHW : Sx g o T R d w1 := hH.kp (S := []) (Kp.of_below (by rw [HP.out]; exact hB)) (by simp)
  have HB0 : Hid (Kp [g] w w1) := Kp.of_below (by rw [HP.out]; exact hB)
  clear hpw hH hB
  go_wp2_with fail
  go_loopw [9] (fun vi wr => ∃ (i X : Nat) (dk : Array Int), vi = .int .i64 i ∧ a + q * 2 - 1 ≤ i ∧ i ≤ a + q * 2 + 2 ∧ dk.size = n ∧ (Sx g o T R dk wr ∧ Kp [g] w wr) ∧ X < 18446744073709551616 ∧ Blk P #[.int .u64 (X : Int)] 62 wr ∧ Hid (Sort.PermIn a b d dk))
    (fun vi _ => a + q * 2 + 2 - (intOf vi).toNat)
  case atStart => exact ⟨a + q * 2 - 1, L, d, by go_num, by omega, by omega, HSZ.out, ⟨hHW, HB0.out⟩, by omega, hW, Sort.permIn_refl _ _ _⟩
  case round =>
    clear hHW hW
    obtain ⟨i, X, dk, rfl, hi1, hi2, hsk, ⟨hw, hk⟩, hX, hbX, hP⟩ := hrel
    by_cases hi : i ≤ a + q * 2 + 1
    · have hiz : (i : Int) ≤ (a : Int) + (q : Int) * 2 + 1 := by omega
      have hN := next_ok P X hX wr hbX
      have HKr : Hid (Sx g o T R dk wr ∧ Kp [g] w wr) := ⟨hw, hk⟩
      clear hw hk hbX
      go_wp2_with fail
      refine hN.mono ?_
      rintro e w1 ⟨Y, hY, rfl, hb1, hk1⟩
      have hw1 := HKr.out.1.kp hk1 (by simpa using fun h => hg h.symm)
      have HK0 : Hid (Kp [g] w w1) := HKr.out.2.new hk1 (by rw [HP.out]; exact Nat.le_refl _)
      have hw := hw1
      have hk := Kp.refl [g] w1
      have HB := Hid.mk'' hb1
      clear hN HKr hk1 hb1
      obtain ⟨O, hO, hOM⟩ := anat Y M hY (by omega) (by omega)
      by_cases hOL : L ≤ O
      · obtain ⟨Z, rfl⟩ : ∃ Z, O = Z + L := ⟨O - L, by omega⟩
        have hOz : (L : Int) ≤ ((Z + L : Nat) : Int) := by omega
        have hZz : ((Z + L : Nat) : Int) - (L : Int) = (Z : Int) := by omega
        have hZL : Z < L := by omega
        obtain ⟨G, hG, hcw, hfw⟩ := hw.fam hsk
        have HG : Hid (∀ t, G t = dk[t]!) := hG
        have SW : Hid (∀ q, i < n → (a + Z) < n → Sx g o T R (Sort.swp dk i (a + Z)) (swW g o dk i (a + Z) q w1) ∧ Kp [g] w1 (swW g o dk i (a + Z) q w1)) := fun q h1 h2 => hw.swap hk (by omega) (by omega) q
        obtain ⟨v3, hy3⟩ := cell?_setCell_some (w := w1) (p := ⟨g, o + i, none⟩) (x := .int .u64 (G (a + Z))) (q := ⟨g, o + (a + Z), none⟩) (hcw (a + Z) (by omega))
        clear hG hw hk hw1
        go_wp2_with fail
        go_region
        all_goals go_wp2
        all_goals go_roundw
        case rel =>
          have h := SW.out 1 (by omega) (by omega)
          unfold swW at h
          rw [← HG.out, ← HG.out] at h
          refine ⟨i + 1, Y, Sort.swp dk i (a + Z), by go_num, by omega, by omega, by rw [Sort.size_swp]; exact hsk, ⟨h.1, HK0.out.trans h.2⟩, hY, ?_, ?_⟩
          · have hb2 := ((HB.out.drew).set_other (show P ≠ g from hg) (o + i) (.int .u64 dk[a + Z]!)).set_other (show P ≠ g from hg) (o + (a + Z)) (.int .u64 dk[i]!)
            rw [← HG.out, ← HG.out] at hb2
            exact hb2
          · exact Sort.permIn_trans _ _ _ a b hP.out (Sort.swp_permIn dk a b i (a + Z) (by omega) (by omega) (by omega) (by omega) (by have := HSZ.out; omega))
        case measure => simp [intOf]; omega
      · have hOz : ¬ ((L : Int) ≤ (O : Int)) := by omega
        have hZL : O < L := by omega
        obtain ⟨G, hG, hcw, hfw⟩ := hw.fam hsk
        have HG : Hid (∀ t, G t = dk[t]!) := hG
        have SW : Hid (∀ q, i < n → (a + O) < n → Sx g o T R (Sort.swp dk i (a + O)) (swW g o dk i (a + O) q w1) ∧ Kp [g] w1 (swW g o dk i (a + O) q w1)) := fun q h1 h2 => hw.swap hk (by omega) (by omega) q
        obtain ⟨v3, hy3⟩ := cell?_setCell_some (w := w1) (p := ⟨g, o + i, none⟩) (x := .int .u64 (G (a + O))) (q := ⟨g, o + (a + O), none⟩) (hcw (a + O) (by omega))
        clear hG hw hk hw1
        go_wp2_with fail
        go_region
        all_goals go_wp2
        all_goals go_roundw
        case rel =>
          have h := SW.out 1 (by omega) (by omega)
          unfold swW at h
          rw [← HG.out, ← HG.out] at h
          refine ⟨i + 1, Y, Sort.swp dk i (a + O), by go_num, by omega, by omega, by rw [Sort.size_swp]; exact hsk, ⟨h.1, HK0.out.trans h.2⟩, hY, ?_, ?_⟩
          · have hb2 := ((HB.out.drew).set_other (show P ≠ g from hg) (o + i) (.int .u64 dk[a + O]!)).set_other (show P ≠ g from hg) (o + (a + O)) (.int .u64 dk[i]!)
            rw [← HG.out, ← HG.out] at hb2
            exact hb2
          · exact Sort.permIn_trans _ _ _ a b hP.out (Sort.swp_permIn dk a b i (a + O) (by omega) (by omega) (by omega) (by omega) (by have := HSZ.out; omega))
        case measure => simp [intOf]; omega
    · have hiz : ¬ ((i : Int) ≤ (a : Int) + (q : Int) * 2 + 1) := by omega
      go_wp2
      go_end0
      exact ⟨rfl, dk, hP.out, hw, hk⟩

end Go.Proofs.Ytkppidcamhbddaa
