/-
  slices.reverseRangeOrdered and slices.siftDownOrdered of uint64.
  The bounds lie within the row.
-/
import Derived.Test.YtkppidcamhbddaaSoB
namespace Go.Proofs.Ytkppidcamhbddaa
set_option maxRecDepth 10000
open Go.RowKit

set_option maxHeartbeats 4000000 in
theorem rev_ok (g o cap a b : Nat) (T : TypeId) (R : List Value × List Value) (d : Array Int) (w : World) (hH : Sx g o T R d w) (hab : a < b) (hb : b ≤ d.size) (hsz : d.size < 4611686018427387904) :
    Calls Try.prog 30 #[.slice (some ⟨g, o, none⟩) d.size cap, .int .i64 a, .int .i64 b] w fun e w' =>
      e = .returned (.tuple #[]) ∧ ∃ d', Sort.PermIn a b d d' ∧ Sx g o T R d' w' ∧ Kp [g] w w' := by
  obtain ⟨n, hn⟩ : ∃ n, d.size = n := ⟨_, rfl⟩
  rw [hn] at hb hsz ⊢
  have HN : Hid (d.size = n) := hn
  clear hn
  go_enter Try.func30, Try.ntmps30
  go_wp2
  go_loopw [6, 7] (fun vi vj wr => ∃ (i j : Nat) (dk : Array Int), vi = .int .i64 i ∧ vj = .int .i64 j ∧ a ≤ i ∧ i ≤ b ∧ j < b ∧ dk.size = n ∧ (Sx g o T R dk wr ∧ Kp [g] w wr) ∧ Hid (Sort.PermIn a b d dk))
    (fun vi vj _ => (intOf vj).toNat - (intOf vi).toNat)
  case atStart => exact ⟨a, b - 1, d, rfl, by go_num, by omega, by omega, by omega, HN, ⟨hH, Kp.refl _ _⟩, Sort.permIn_refl _ _ _⟩
  case round =>
    obtain ⟨i, j, dk, rfl, rfl, hai, hib, hjb, hsk, ⟨hw, hk⟩, hP⟩ := hrel
    obtain ⟨G, hG, hcw, hfw⟩ := hw.fam hsk
    have HG : Hid (∀ t, G t = dk[t]!) := hG
    have SW : Hid (∀ q, i < n → j < n → Sx g o T R (Sort.swp dk i j) (swW g o dk i j q wr) ∧ Kp [g] w (swW g o dk i j q wr)) := fun q h1 h2 => hw.swap hk (by omega) (by omega) q
    have HW : Hid (Sx g o T R dk wr ∧ Kp [g] w wr) := ⟨hw, hk⟩
    clear hG hw hk hH
    by_cases hij : i < j
    · go_wp2
      go_region
      all_goals go_wp2
      all_goals go_roundw
      case rel =>
        refine ⟨i + 1, j - 1, Sort.swp dk i j, by go_num, by go_num, by omega, by omega, by omega, by rw [Sort.size_swp]; exact hsk, ?_, ?_⟩
        · have h := SW.out 1 (by omega) (by omega)
          unfold swW at h
          rw [← HG.out, ← HG.out] at h
          exact h
        · exact Sort.permIn_trans _ _ _ a b hP.out (Sort.swp_permIn dk a b i j (by omega) (by omega) (by omega) (by omega) (by omega))
      case measure => simp [intOf]; omega
    · go_wp2
      go_end0
      exact ⟨rfl, dk, hP.out, HW.out⟩

set_option maxHeartbeats 8000000 in
theorem sift_ok (g o cap lo hi F : Nat) (T : TypeId) (R : List Value × List Value) (d : Array Int) (w : World) (hH : Sx g o T R d w) (hlo : lo ≤ hi) (hb : F + hi ≤ d.size) (hsz : d.size < 1152921504606846976) :
    Calls Try.prog 37 #[.slice (some ⟨g, o, none⟩) d.size cap, .int .i64 lo, .int .i64 hi, .int .i64 F] w fun e w' =>
      e = .returned (.tuple #[]) ∧ Sx g o T R (Sort.siftDown Sort.ltInt hi F lo d) w' ∧ Kp [g] w w' := by
  obtain ⟨n, hn⟩ : ∃ n, d.size = n := ⟨_, rfl⟩
  rw [hn] at hb hsz ⊢
  have HN : Hid (d.size = n) := hn
  clear hn
  go_enter Try.func37, Try.ntmps37
  go_wp2
  go_loopw [8] (fun vi wr => ∃ (root : Nat) (dk : Array Int), vi = .int .i64 root ∧ root ≤ hi ∧ dk.size = n ∧ (Sx g o T R dk wr ∧ Kp [g] w wr) ∧ Hid (Sort.siftDown Sort.ltInt hi F root dk = Sort.siftDown Sort.ltInt hi F lo d))
    (fun vi _ => hi - (intOf vi).toNat)
  case atStart => exact ⟨lo, d, rfl, hlo, HN, ⟨hH, Kp.refl _ _⟩, rfl⟩
  case round =>
    obtain ⟨root, dk, rfl, hroot, hsk, ⟨hw, hk⟩, HE⟩ := hrel
    obtain ⟨G, hG, hcw, hfw⟩ := hw.fam hsk
    have HG : Hid (∀ t, G t = dk[t]!) := hG
    have SW : Hid (∀ q j, F + root < n ∧ j < n → Sx g o T R (Sort.swp dk (F + root) j) (swW g o dk (F + root) j q wr) ∧ Kp [g] w (swW g o dk (F + root) j q wr)) := fun q j h => hw.swap hk (by omega) (by omega) q
    have HW : Hid (Sx g o T R dk wr ∧ Kp [g] w wr) := ⟨hw, hk⟩
    clear hG hw hk hH
    by_cases h0 : hi ≤ 2 * root + 1
    · have h0z : (hi : Int) ≤ 2 * (root : Int) + 1 := by omega
      go_wp2
      go_end0
      have h := HW.out
      refine ⟨rfl, ?_, h.2⟩
      rw [← HE.out, sift_end Sort.ltInt hi F root dk h0]
      exact h.1
    · have h0z : ¬ ((hi : Int) ≤ 2 * (root : Int) + 1) := by omega
      by_cases h1 : 2 * root + 2 < hi
      · have h1z : 2 * (root : Int) + 1 + 1 < (hi : Int) := by omega
        go_wp2_with fail
        go_quiet (first | (go_at_call 32; refine Calls.quiet_of_same (less_ok _ _ _)))
        go_wp2_with fail
        · have hL : Sort.ltInt (G (F + 2 * root + 1)) (G (F + 2 * root + 2)) = true := by assumption
          have hc : Hid (kidS Sort.ltInt hi F root dk = 2 * root + 2) := by
            unfold kidS
            exact if_pos ⟨h1, by rw [← HG.out, ← HG.out]; exact hL⟩
          have hcw1 : ∀ t, t < n → (wr.drewN nq).cell? ⟨g, o + t, none⟩ = some (.int .u64 (G t)) := hcw
          have hfw1 : ∀ t, t < n → (wr.drewN nq).frozen? ⟨g, o + t, none⟩ = false := hfw
          have HW1 : Hid (Sx g o T R dk (wr.drewN nq) ∧ Kp [g] w (wr.drewN nq)) := ⟨HW.out.1.draws nq, HW.out.2.trans (kp_drewN _ _ _)⟩
          have SW1 : Hid (∀ q j, F + root < n ∧ j < n → Sx g o T R (Sort.swp dk (F + root) j) (swW g o dk (F + root) j q (wr.drewN nq)) ∧ Kp [g] w (swW g o dk (F + root) j q (wr.drewN nq))) := fun q j h => HW1.out.1.swap HW1.out.2 (by omega) (by omega) q
          clear hcw hfw HW SW
          generalize wr.drewN nq = W1 at hcw1 hfw1 HW1 SW1 ⊢
          clear nq
          go_quiet (first | (go_at_call 32; refine Calls.quiet_of_same (less_ok _ _ _)))
          go_wp2
          · have hl : Sort.ltInt (G (F + root)) (G (F + 2 * root + 2)) = false := not_lt (by assumption)
            (try simp only [Exit.inBlock, Exit.then]); refine bodyPost_ret (results_none rfl _ _ _) rfl ?_
            have h := HW1.out
            refine ⟨rfl, ?_, h.2.trans (kp_drewN _ _ _)⟩
            rw [← HE.out, sift_stop Sort.ltInt hi F root dk (by omega) (by rw [hc.out, ← HG.out, ← HG.out]; exact hl)]
            exact h.1
          · have hl : Sort.ltInt (G (F + root)) (G (F + 2 * root + 2)) = true := not_ge (by assumption)
            go_region
            all_goals go_wp2
            all_goals go_roundw
            case rel =>
              refine ⟨2 * root + 2, Sort.swp dk (F + root) (F + (2 * root + 2)), by go_num, by omega, by rw [Sort.size_swp]; exact hsk, ?_, ?_⟩
              · have h := SW1.out (nq + 1) (F + (2 * root + 2)) (by omega)
                unfold swW at h
                rw [← HG.out, ← HG.out] at h
                exact h
              · show Hid _
                rw [← HE.out, sift_go Sort.ltInt hi F root dk (by omega) (by rw [hc.out, ← HG.out, ← HG.out]; exact hl), hc.out]
                rfl
            case measure => simp [intOf]; omega
        · have hL : Sort.ltInt (G (F + 2 * root + 1)) (G (F + 2 * root + 2)) = false := by assumption
          have hc : Hid (kidS Sort.ltInt hi F root dk = 2 * root + 1) := by
            unfold kidS
            exact if_neg fun h => by have h2 := h.2; rw [← HG.out, ← HG.out] at h2; exact Bool.false_ne_true (hL.symm.trans h2)
          have hcw1 : ∀ t, t < n → (wr.drewN nq).cell? ⟨g, o + t, none⟩ = some (.int .u64 (G t)) := hcw
          have hfw1 : ∀ t, t < n → (wr.drewN nq).frozen? ⟨g, o + t, none⟩ = false := hfw
          have HW1 : Hid (Sx g o T R dk (wr.drewN nq) ∧ Kp [g] w (wr.drewN nq)) := ⟨HW.out.1.draws nq, HW.out.2.trans (kp_drewN _ _ _)⟩
          have SW1 : Hid (∀ q j, F + root < n ∧ j < n → Sx g o T R (Sort.swp dk (F + root) j) (swW g o dk (F + root) j q (wr.drewN nq)) ∧ Kp [g] w (swW g o dk (F + root) j q (wr.drewN nq))) := fun q j h => HW1.out.1.swap HW1.out.2 (by omega) (by omega) q
          clear hcw hfw HW SW
          generalize wr.drewN nq = W1 at hcw1 hfw1 HW1 SW1 ⊢
          clear nq
          go_quiet (first | (go_at_call 32; refine Calls.quiet_of_same (less_ok _ _ _)))
          go_wp2
          · have hl : Sort.ltInt (G (F + root)) (G (F + 2 * root + 1)) = false := not_lt (by assumption)
            (try simp only [Exit.inBlock, Exit.then]); refine bodyPost_ret (results_none rfl _ _ _) rfl ?_
            have h := HW1.out
            refine ⟨rfl, ?_, h.2.trans (kp_drewN _ _ _)⟩
            rw [← HE.out, sift_stop Sort.ltInt hi F root dk (by omega) (by rw [hc.out, ← HG.out, ← HG.out]; exact hl)]
            exact h.1
          · have hl : Sort.ltInt (G (F + root)) (G (F + 2 * root + 1)) = true := not_ge (by assumption)
            go_region
            all_goals go_wp2
            all_goals go_roundw
            case rel =>
              refine ⟨2 * root + 1, Sort.swp dk (F + root) (F + (2 * root + 1)), by go_num, by omega, by rw [Sort.size_swp]; exact hsk, ?_, ?_⟩
              · have h := SW1.out (nq + 1) (F + (2 * root + 1)) (by omega)
                unfold swW at h
                rw [← HG.out, ← HG.out] at h
                exact h
              · show Hid _
                rw [← HE.out, sift_go Sort.ltInt hi F root dk (by omega) (by rw [hc.out, ← HG.out, ← HG.out]; exact hl), hc.out]
                rfl
            case measure => simp [intOf]; omega
      · have h1z : decide (2 * (root : Int) + 1 + 1 < (hi : Int)) = false := decide_eq_false (by omega)
        have h2z : 2 * (root : Int) + 1 + 1 ≤ (hi : Int) := by omega
        have hc : Hid (kidS Sort.ltInt hi F root dk = 2 * root + 1) := if_neg fun h => h1 h.1
        go_wp2_with fail
        go_quiet (first | (go_at_call 32; refine Calls.quiet_of_same (less_ok _ _ _)))
        go_wp2_with fail
        have hcw1 : ∀ t, t < n → (wr.drewN nq).cell? ⟨g, o + t, none⟩ = some (.int .u64 (G t)) := hcw
        have hfw1 : ∀ t, t < n → (wr.drewN nq).frozen? ⟨g, o + t, none⟩ = false := hfw
        have HW1 : Hid (Sx g o T R dk (wr.drewN nq) ∧ Kp [g] w (wr.drewN nq)) := ⟨HW.out.1.draws nq, HW.out.2.trans (kp_drewN _ _ _)⟩
        have SW1 : Hid (∀ q j, F + root < n ∧ j < n → Sx g o T R (Sort.swp dk (F + root) j) (swW g o dk (F + root) j q (wr.drewN nq)) ∧ Kp [g] w (swW g o dk (F + root) j q (wr.drewN nq))) := fun q j h => HW1.out.1.swap HW1.out.2 (by omega) (by omega) q
        clear hcw hfw HW SW
        generalize wr.drewN nq = W1 at hcw1 hfw1 HW1 SW1 ⊢
        clear nq
        go_quiet (first | (go_at_call 32; refine Calls.quiet_of_same (less_ok _ _ _)))
        go_wp2
        · have hl : Sort.ltInt (G (F + root)) (G (F + 2 * root + 1)) = false := not_lt (by assumption)
          (try simp only [Exit.inBlock, Exit.then]); refine bodyPost_ret (results_none rfl _ _ _) rfl ?_
          have h := HW1.out
          refine ⟨rfl, ?_, h.2.trans (kp_drewN _ _ _)⟩
          rw [← HE.out, sift_stop Sort.ltInt hi F root dk (by omega) (by rw [hc.out, ← HG.out, ← HG.out]; exact hl)]
          exact h.1
        · have hl : Sort.ltInt (G (F + root)) (G (F + 2 * root + 1)) = true := not_ge (by assumption)
          go_region
          all_goals go_wp2
          all_goals go_roundw
          case rel =>
            refine ⟨2 * root + 1, Sort.swp dk (F + root) (F + (2 * root + 1)), by go_num, by omega, by rw [Sort.size_swp]; exact hsk, ?_, ?_⟩
            · have h := SW1.out (nq + 1) (F + (2 * root + 1)) (by omega)
              unfold swW at h
              rw [← HG.out, ← HG.out] at h
              exact h
            · show Hid _
              rw [← HE.out, sift_go Sort.ltInt hi F root dk (by omega) (by rw [hc.out, ← HG.out, ← HG.out]; exact hl), hc.out]
              rfl
          case measure => simp [intOf]; omega

end Go.Proofs.Ytkppidcamhbddaa
