/-
  slices.partialInsertionSortOrdered of uint64.
  The bounds lie within the row.
-/
import Derived.Test.YtkppidcamhbddaaSoB
namespace Go.Proofs.Ytkppidcamhbddaa
set_option maxRecDepth 10000
open Go.RowKit

theorem pins_true {α : Type} [Inhabited α] (lt : α → α → Bool) (a b s i : Nat) (d : Array α) (hs : s < 5) (hK : Sort.scanSorted lt d b i = b) : Sort.partialIns lt a b (5 - s) i d = (d, true) := by
  rw [show 5 - s = (5 - (s + 1)) + 1 by omega, Sort.partialIns_succ, if_pos hK]
theorem pins_short {α : Type} [Inhabited α] (lt : α → α → Bool) (a b s i k : Nat) (d : Array α) (hs : s < 5) (hK : k = Sort.scanSorted lt d b i) (hb : k ≠ b) (h : b - a < 50) : Sort.partialIns lt a b (5 - s) i d = (d, false) := by
  rw [show 5 - s = (5 - (s + 1)) + 1 by omega, Sort.partialIns_succ, ← hK, if_neg hb, if_pos h]
theorem pins_go {α : Type} [Inhabited α] (lt : α → α → Bool) (a b s i k : Nat) (d : Array α) (hs : s < 5) (hK : k = Sort.scanSorted lt d b i) (hb : k ≠ b) (h : ¬ b - a < 50) :
    Sort.partialIns lt a b (5 - s) i d = Sort.partialIns lt a b (5 - (s + 1)) k (Sort.fixUp lt b k (Sort.fixDown lt a k (Sort.swp d k (k - 1)))) := by
  rw [show 5 - s = (5 - (s + 1)) + 1 by omega, Sort.partialIns_succ, ← hK, if_neg hb, if_neg h]
set_option maxHeartbeats 32000000 in
set_option maxRecDepth 100000 in
theorem pins_ok (g o cap a b : Nat) (T : TypeId) (R : List Value × List Value) (d : Array Int) (w : World) (hH : Sx g o T R d w) (hab : a < b) (hb : b ≤ d.size) (hsz : d.size < 1152921504606846976) :
    Calls Try.prog 31 #[.slice (some ⟨g, o, none⟩) d.size cap, .int .i64 a, .int .i64 b] w fun e w' =>
      e = .returned (.bool (Sort.partialInsertionSort Sort.ltInt d a b).2) ∧ Sx g o T R (Sort.partialInsertionSort Sort.ltInt d a b).1 w' ∧ Kp [g] w w' := by
  obtain ⟨n, hn⟩ : ∃ n, d.size = n := ⟨_, rfl⟩
  rw [hn] at hb hsz ⊢
  have HN : Hid (d.size = n) := hn
  have hw := hH
  have hk : Kp [g] w w := Kp.refl _ _
  have hsk := hn
  clear hn hH
  go_enter Try.func31, Try.ntmps31
  go_wp2
  go_loopw [7, 8] (fun vi vs wr => ∃ (i s : Nat) (dk : Array Int), vi = .int .i64 i ∧ vs = .int .i64 s ∧ a < i ∧ i ≤ b ∧ s ≤ 5 ∧ dk.size = n ∧ (Sx g o T R dk wr ∧ Kp [g] w wr) ∧
      Hid (Sort.partialIns Sort.ltInt a b (5 - s) i dk = Sort.partialInsertionSort Sort.ltInt d a b))
    (fun _ vs _ => 5 - (intOf vs).toNat)
  case atStart => exact ⟨a + 1, 0, d, by go_num, by go_num, by omega, by omega, by omega, hsk, ⟨hw, hk⟩, rfl⟩
  case round =>
    clear hw hk hsk
    obtain ⟨i, s, dk, rfl, rfl, hai, hib, hs5, hsk, ⟨hw, hk⟩, HE⟩ := hrel
    by_cases hs : s < 5
    · have hs5z : decide ((s : Int) < 5) = true := decide_eq_true (by omega)
      go_wp2
      have HS : Hid (s < 5) := hs
      try rw [hs5z]
      clear hs hs5z
      go_loopw [7] (fun vi wr => ∃ (i1 : Nat), vi = .int .i64 i1 ∧ i ≤ i1 ∧ i1 ≤ b ∧ (Sx g o T R dk wr ∧ Kp [g] w wr) ∧ Hid (Sort.scanSorted Sort.ltInt dk b i1 = Sort.scanSorted Sort.ltInt dk b i))
        (fun vi _ => b - (intOf vi).toNat)
      case atStart => exact ⟨i, rfl, Nat.le_refl _, hib, ⟨hw, hk⟩, rfl⟩
      case round =>
        clear hw hk
        obtain ⟨i1, rfl, hii, hi1b, ⟨hw, hk⟩, hsc⟩ := hrel
        obtain ⟨G, hG, hcw, hfw⟩ := hw.fam hsk
        have HG : Hid (∀ t, G t = dk[t]!) := hG
        have HW : Hid (∀ q, Sx g o T R dk (wr.drewN q) ∧ Kp [g] w (wr.drewN q)) := fun q => ⟨hw.draws q, hk.trans (kp_drewN _ _ _)⟩
        by_cases hlt : i1 < b
        · clear hG hw hk
          have hbe : ((i1 : Int) == (b : Int)) = false := beq_eq_false_iff_ne.2 (by omega)
          by_cases h50 : b - a < 50
          · have h50z : (b : Int) - (a : Int) < 50 := by omega
            go_wp2_with fail
            go_quiet (first | (go_at_call 32; refine Calls.quiet_of_same (less_ok _ _ _)))
            go_wp2_with fail
            · have ht : Sort.ltInt (G i1) (G (i1 - 1)) = false := not_lt (by assumption)
              go_wp2
              go_roundw
              case rel => exact ⟨i1 + 1, by go_num, by omega, by omega, HW.out nq, (srt_go Sort.ltInt dk b i1 hlt (by have h := ht; rw [HG.out, HG.out] at h; exact h)).symm.trans hsc.out⟩
              case measure => simp [intOf]; omega
            · have ht : Sort.ltInt (G i1) (G (i1 - 1)) = true := not_ge (by assumption)
              have HK : Hid (i1 = Sort.scanSorted Sort.ltInt dk b i) := (srt_stop Sort.ltInt dk b i1 (Or.inr (by have h := ht; rw [HG.out, HG.out] at h; exact h))).symm.trans hsc.out
              have hw := (HW.out nq).1
              have hk := (HW.out nq).2
              clear ht hcw hfw HW HG hsc
              generalize wr.drewN nq = W2 at hw hk ⊢
              clear nq
              go_wp2
              go_ret
              have e := (pins_short Sort.ltInt a b s i i1 dk HS.out HK.out (by omega) h50).symm.trans HE.out
              rw [← e]
              exact ⟨rfl, hw, hk⟩
          · have h50z : ¬ ((b : Int) - (a : Int) < 50) := by omega
            go_wp2_with fail
            go_quiet (first | (go_at_call 32; refine Calls.quiet_of_same (less_ok _ _ _)))
            go_wp2_with fail
            · have ht : Sort.ltInt (G i1) (G (i1 - 1)) = false := not_lt (by assumption)
              go_wp2
              go_roundw
              case rel => exact ⟨i1 + 1, by go_num, by omega, by omega, HW.out nq, (srt_go Sort.ltInt dk b i1 hlt (by have h := ht; rw [HG.out, HG.out] at h; exact h)).symm.trans hsc.out⟩
              case measure => simp [intOf]; omega
            · have ht : Sort.ltInt (G i1) (G (i1 - 1)) = true := not_ge (by assumption)
              have HK : Hid (i1 = Sort.scanSorted Sort.ltInt dk b i) := (srt_stop Sort.ltInt dk b i1 (Or.inr (by have h := ht; rw [HG.out, HG.out] at h; exact h))).symm.trans hsc.out
              have hw := (HW.out nq).1
              have hk := (HW.out nq).2
              clear ht hcw hfw HW HG hsc
              generalize wr.drewN nq = W2 at hw hk ⊢
              clear nq
              have HN2 : Hid (Sort.partialIns Sort.ltInt a b (5 - (s + 1)) i1 (Sort.fixUp Sort.ltInt b i1 (Sort.fixDown Sort.ltInt a i1 (Sort.swp dk i1 (i1 - 1)))) = Sort.partialInsertionSort Sort.ltInt d a b) := (pins_go Sort.ltInt a b s i i1 dk HS.out HK.out (by omega) h50).symm.trans HE.out
              clear HE
              obtain ⟨G, hG, hcw, hfw⟩ := hw.fam hsk
              have HG : Hid (∀ t, G t = dk[t]!) := hG
              have SW : Hid (∀ q, i1 < n → (i1 - 1) < n → Sx g o T R (Sort.swp dk i1 (i1 - 1)) (swW g o dk i1 (i1 - 1) q W2) ∧ Kp [g] w (swW g o dk i1 (i1 - 1) q W2)) := fun q h1 h2 => hw.swap hk (by omega) (by omega) q
              clear hG hw hk
              go_region
              have h := SW.out 1 (by omega) (by omega)
              unfold swW at h
              rw [← HG.out, ← HG.out] at h
              obtain ⟨hw, hk⟩ := h
              clear SW hcw hfw HG
              obtain ⟨d1, h1⟩ : ∃ d1, d1 = Sort.swp dk i1 (i1 - 1) := ⟨_, rfl⟩
              rw [← h1] at hw
              have H1 : Hid (d1 = Sort.swp dk i1 (i1 - 1)) := h1
              replace hsk : d1.size = n := by rw [h1, Sort.size_swp]; exact hsk
              clear h1 h50z h50 hbe
              go_upto_if 61 with fail
              generalize hB : decide ((2 : Int) ≤ (i1 : Int) - (a : Int)) = B
              have HB : Hid (decide ((2 : Int) ≤ (i1 : Int) - (a : Int)) = B) := hB
              clear hB
              go_cut [9] from 62 to 94 (fun v wx => ∃ d2, d2 = Sort.fixDown Sort.ltInt a i1 d1 ∧ d2.size = n ∧ Sx g o T R d2 wx ∧ Kp [g] w wx)
              case first =>
                cases B with
                | true =>
                  go_wp2
                  go_loopw [9] (fun vj wr => ∃ (j : Nat) (dj : Array Int), vj = .int .i64 j ∧ j < n ∧ dj.size = n ∧ (Sx g o T R dj wr ∧ Kp [g] w wr) ∧ Hid (Sort.shiftDown Sort.ltInt j dj = Sort.shiftDown Sort.ltInt (i1 - 1) d1))
                    (fun vj _ => (intOf vj).toNat)
                  case atStart => exact ⟨i1 - 1, d1, by go_num, by omega, hsk, ⟨hw, hk⟩, rfl⟩
                  case round =>
                    clear hw hk hsk
                    obtain ⟨j, dj, rfl, hjb, hsk, ⟨hw, hk⟩, HJ⟩ := hrel
                    obtain ⟨G, hG, hcw, hfw⟩ := hw.fam hsk
                    have HG : Hid (∀ t, G t = dj[t]!) := hG
                    have HW : Hid (∀ q, Sx g o T R dj (wr.drewN q) ∧ Kp [g] w (wr.drewN q)) := fun q => ⟨hw.draws q, hk.trans (kp_drewN _ _ _)⟩
                    by_cases hj : 1 ≤ j
                    · clear hG hw hk
                      go_wp2_with fail
                      go_quiet (first | (go_at_call 32; refine Calls.quiet_of_same (less_ok _ _ _)))
                      go_wp2_with fail
                      · have ht : Sort.ltInt (G j) (G (j - 1)) = false := not_lt (by assumption)
                        have e : Sort.shiftDown Sort.ltInt (i1 - 1) d1 = dj := by rw [← HJ.out]; exact sdn_stop Sort.ltInt j dj (Or.inr (by have h := ht; rw [HG.out, HG.out] at h; exact h))
                        have HE2 : Hid (Sort.shiftDown Sort.ltInt (i1 - 1) d1 = dj) := e
                        clear e ht
                        have hw := (HW.out nq).1
                        have hk := (HW.out nq).2
                        clear hcw hfw HW HG
                        go_meet
                        exact ⟨dj, by unfold Sort.fixDown; rw [if_pos (by have h := of_decide_eq_true HB.out; omega)]; exact HE2.out.symm, hsk, hw, hk⟩
                      · have ht : Sort.ltInt (G j) (G (j - 1)) = true := not_ge (by assumption)
                        have hw := (HW.out nq).1
                        have hk := (HW.out nq).2
                        have hcw1 : ∀ t, t < n → (wr.drewN nq).cell? ⟨g, o + t, none⟩ = some (.int .u64 (G t)) := hcw
                        have hfw1 : ∀ t, t < n → (wr.drewN nq).frozen? ⟨g, o + t, none⟩ = false := hfw
                        clear hcw hfw HW
                        generalize wr.drewN nq = W1 at hcw1 hfw1 hw hk ⊢
                        clear nq
                        have SW : Hid (∀ q, j < n → (j - 1) < n → Sx g o T R (Sort.swp dj j (j - 1)) (swW g o dj j (j - 1) q W1) ∧ Kp [g] w (swW g o dj j (j - 1) q W1)) := fun q h1 h2 => hw.swap hk (by omega) (by omega) q
                        clear hw hk
                        go_region
                        all_goals go_wp2
                        all_goals go_roundw
                        case rel =>
                          refine ⟨j - 1, Sort.swp dj j (j - 1), by go_num, by omega, by rw [Sort.size_swp]; exact hsk, ?_, ?_⟩
                          · have h := SW.out 1 (by omega) (by omega)
                            unfold swW at h
                            rw [← HG.out, ← HG.out] at h
                            exact h
                          · exact (sdn_go Sort.ltInt j dj hj (by have h := ht; rw [HG.out, HG.out] at h; exact h)).symm.trans HJ.out
                        case measure => simp [intOf]; try omega
                    · have hw0 := HW.out 0
                      clear hG hcw hfw HW
                      have e : Sort.shiftDown Sort.ltInt (i1 - 1) d1 = dj := by rw [← HJ.out]; exact sdn_stop Sort.ltInt j dj (Or.inl (by omega))
                      have HE2 : Hid (Sort.shiftDown Sort.ltInt (i1 - 1) d1 = dj) := e
                      clear e
                      go_wp2
                      go_meet
                      exact ⟨dj, by unfold Sort.fixDown; rw [if_pos (by have h := of_decide_eq_true HB.out; omega)]; exact HE2.out.symm, hsk, hw, hk⟩
                | false =>
                  go_wp2
                  go_meet
                  exact ⟨d1, by unfold Sort.fixDown; rw [if_neg (by have h := of_decide_eq_false HB.out; omega)], hsk, hw, hk⟩
              case rest =>
                clear hw hk hsk
                obtain ⟨d2, hd2, hsk, hw, hk⟩ := ‹∃ d2, d2 = Sort.fixDown Sort.ltInt a i1 d1 ∧ _›
                have Hd2 : Hid (d2 = Sort.fixDown Sort.ltInt a i1 d1) := hd2
                clear hd2
                by_cases h2 : b - i1 ≥ 2
                · have h2z : (2 : Int) ≤ (b : Int) - (i1 : Int) := by omega
                  go_wp2
                  go_loopw [10] (fun vj wr => ∃ (j : Nat) (dj : Array Int), vj = .int .i64 j ∧ (1 ≤ j ∧ j ≤ b) ∧ dj.size = n ∧ (Sx g o T R dj wr ∧ Kp [g] w wr) ∧ Hid (Sort.shiftUp Sort.ltInt b j dj = Sort.shiftUp Sort.ltInt b (i1 + 1) d2))
                    (fun vj _ => b - (intOf vj).toNat)
                  case atStart => exact ⟨i1 + 1, d2, by go_num, by omega, hsk, ⟨hw, hk⟩, rfl⟩
                  case round =>
                    clear hw hk hsk
                    obtain ⟨j, dj, rfl, hjb, hsk, ⟨hw, hk⟩, HJ⟩ := hrel
                    obtain ⟨G, hG, hcw, hfw⟩ := hw.fam hsk
                    have HG : Hid (∀ t, G t = dj[t]!) := hG
                    have HW : Hid (∀ q, Sx g o T R dj (wr.drewN q) ∧ Kp [g] w (wr.drewN q)) := fun q => ⟨hw.draws q, hk.trans (kp_drewN _ _ _)⟩
                    by_cases hj : j < b
                    · clear hG hw hk
                      go_wp2_with fail
                      go_quiet (first | (go_at_call 32; refine Calls.quiet_of_same (less_ok _ _ _)))
                      go_wp2_with fail
                      · have ht : Sort.ltInt (G j) (G (j - 1)) = false := not_lt (by assumption)
                        have e : Sort.shiftUp Sort.ltInt b (i1 + 1) d2 = dj := by rw [← HJ.out]; exact sup_stop Sort.ltInt b j dj (Or.inr (by have h := ht; rw [HG.out, HG.out] at h; exact h))
                        have HE2 : Hid (Sort.shiftUp Sort.ltInt b (i1 + 1) d2 = dj) := e
                        clear e ht
                        have hw := (HW.out nq).1
                        have hk := (HW.out nq).2
                        clear hcw hfw HW HG
                        have HU : Hid (Sort.fixUp Sort.ltInt b i1 d2 = dj) := (by unfold Sort.fixUp; rw [if_pos h2]; exact HE2.out)
                        go_roundw
                        case rel => exact ⟨i1, s + 1, dj, rfl, by go_num, by omega, by omega, by have := HS.out; omega, hsk, ⟨hw, hk⟩, by have h := HN2.out; rw [← H1.out, ← Hd2.out, HU.out] at h; exact h⟩
                        case measure => have := HS.out; simp [intOf]; omega
                      · have ht : Sort.ltInt (G j) (G (j - 1)) = true := not_ge (by assumption)
                        have hw := (HW.out nq).1
                        have hk := (HW.out nq).2
                        have hcw1 : ∀ t, t < n → (wr.drewN nq).cell? ⟨g, o + t, none⟩ = some (.int .u64 (G t)) := hcw
                        have hfw1 : ∀ t, t < n → (wr.drewN nq).frozen? ⟨g, o + t, none⟩ = false := hfw
                        clear hcw hfw HW
                        generalize wr.drewN nq = W1 at hcw1 hfw1 hw hk ⊢
                        clear nq
                        have SW : Hid (∀ q, j < n → (j - 1) < n → Sx g o T R (Sort.swp dj j (j - 1)) (swW g o dj j (j - 1) q W1) ∧ Kp [g] w (swW g o dj j (j - 1) q W1)) := fun q h1 h2 => hw.swap hk (by omega) (by omega) q
                        clear hw hk
                        go_region
                        all_goals go_wp2
                        all_goals go_roundw
                        case rel =>
                          refine ⟨j + 1, Sort.swp dj j (j - 1), by go_num, by omega, by rw [Sort.size_swp]; exact hsk, ?_, ?_⟩
                          · have h := SW.out 1 (by omega) (by omega)
                            unfold swW at h
                            rw [← HG.out, ← HG.out] at h
                            exact h
                          · exact (sup_go Sort.ltInt b j dj hj (by have h := ht; rw [HG.out, HG.out] at h; exact h)).symm.trans HJ.out
                        case measure => simp [intOf]; try omega
                    · have hw0 := HW.out 0
                      clear hG hcw hfw HW
                      have e : Sort.shiftUp Sort.ltInt b (i1 + 1) d2 = dj := by rw [← HJ.out]; exact sup_stop Sort.ltInt b j dj (Or.inl (by omega))
                      have HE2 : Hid (Sort.shiftUp Sort.ltInt b (i1 + 1) d2 = dj) := e
                      clear e
                      have HU : Hid (Sort.fixUp Sort.ltInt b i1 d2 = dj) := (by unfold Sort.fixUp; rw [if_pos h2]; exact HE2.out)
                      go_wp2
                      go_roundw
                      case rel => exact ⟨i1, s + 1, dj, rfl, by go_num, by omega, by omega, by have := HS.out; omega, hsk, ⟨hw, hk⟩, by have h := HN2.out; rw [← H1.out, ← Hd2.out, HU.out] at h; exact h⟩
                      case measure => have := HS.out; simp [intOf]; omega
                · have h2z : ¬ ((2 : Int) ≤ (b : Int) - (i1 : Int)) := by omega
                  have HU : Hid (Sort.fixUp Sort.ltInt b i1 d2 = d2) := (by unfold Sort.fixUp; rw [if_neg h2]; exact rfl)
                  go_wp2
                  go_roundw
                  case rel => exact ⟨i1, s + 1, d2, rfl, by go_num, by omega, by omega, by have := HS.out; omega, hsk, ⟨hw, hk⟩, by have h := HN2.out; rw [← H1.out, ← Hd2.out, HU.out] at h; exact h⟩
                  case measure => have := HS.out; simp [intOf]; omega
        · obtain rfl : i1 = b := by omega
          have HK : Hid (Sort.scanSorted Sort.ltInt dk i1 i = i1) := hsc.out.symm.trans (srt_stop Sort.ltInt dk i1 i1 (Or.inl (by omega)))
          clear hG hw hk hsc
          go_wp2_with fail
          go_quiet (first | (go_at_call 32; refine Calls.quiet_of_same (less_ok _ _ _)))
          have h := HW.out nq
          clear hcw hfw HW HG
          generalize wr.drewN nq = W2 at h ⊢
          go_wp2
          go_ret
          have e := (pins_true Sort.ltInt a i1 s i dk HS.out HK.out).symm.trans HE.out
          rw [← e]
          exact ⟨rfl, h⟩
    · obtain rfl : s = 5 := by omega
      go_wp2
      go_ret
      rw [← HE.out]
      exact ⟨rfl, hw, hk⟩

end Go.Proofs.Ytkppidcamhbddaa
