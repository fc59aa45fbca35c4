/-
  slices.partitionOrdered of uint64.
  The bounds lie within the row.
-/
import Derived.Test.YtkppidcamhbddaaSoB
namespace Go.Proofs.Ytkppidcamhbddaa
set_option maxRecDepth 10000
open Go.RowKit

theorem par_break {α : Type} [Inhabited α] (lt : α → α → Bool) (a i j : Nat) (d : Array α) {i2 j2 : Nat} (hi : i2 = Sort.scanUp (fun x => lt x d[a]!) d j i) (hj : j2 = Sort.scanDown (fun x => !lt x d[a]!) d i2 j) (h : j2 < i2) : Sort.partLoop lt a i j d = (j2, d) := by
  subst hj hi
  rw [Sort.partLoop_eq, if_pos h]
theorem par_go {α : Type} [Inhabited α] (lt : α → α → Bool) (a i j : Nat) (d : Array α) {i2 j2 : Nat} (hi : i2 = Sort.scanUp (fun x => lt x d[a]!) d j i) (hj : j2 = Sort.scanDown (fun x => !lt x d[a]!) d i2 j) (h : i2 < j2) : Sort.partLoop lt a i j d = Sort.partLoop lt a (i2 + 1) (j2 - 1) (Sort.swp d i2 j2) := by
  subst hj hi
  rw [Sort.partLoop_eq, if_neg (by omega)]
theorem par_one {α : Type} [Inhabited α] (lt : α → α → Bool) (a b pivot : Nat) (d d1 : Array α) {i2 j2 : Nat} (h1 : d1 = Sort.swp d a pivot) (hi : i2 = Sort.scanUp (fun x => lt x d1[a]!) d1 (b - 1) (a + 1)) (hj : j2 = Sort.scanDown (fun x => !lt x d1[a]!) d1 i2 (b - 1)) (h : j2 < i2) :
    Sort.partition lt d a b pivot = (j2, true, Sort.swp d1 j2 a) := by
  subst hj hi h1
  unfold Sort.partition
  simp only []
  rw [if_pos h]
theorem par_two {α : Type} [Inhabited α] (lt : α → α → Bool) (a b pivot : Nat) (d d1 : Array α) {i2 j2 : Nat} {r : Nat × Array α} (h1 : d1 = Sort.swp d a pivot) (hi : i2 = Sort.scanUp (fun x => lt x d1[a]!) d1 (b - 1) (a + 1)) (hj : j2 = Sort.scanDown (fun x => !lt x d1[a]!) d1 i2 (b - 1)) (h : i2 < j2)
    (hr : Sort.partLoop lt a (i2 + 1) (j2 - 1) (Sort.swp d1 i2 j2) = r) : Sort.partition lt d a b pivot = (r.1, false, Sort.swp r.2 r.1 a) := by
  subst hj hi h1 hr
  unfold Sort.partition
  simp only []
  rw [if_neg (by omega)]
set_option maxHeartbeats 32000000 in
set_option maxRecDepth 100000 in
theorem par_ok (g o cap a b pivot : Nat) (T : TypeId) (R : List Value × List Value) (d : Array Int) (w : World) (hH : Sx g o T R d w) (hap : a ≤ pivot) (hpb : pivot < b) (hb : b ≤ d.size) (hsz : d.size < 1152921504606846976) :
    Calls Try.prog 34 #[.slice (some ⟨g, o, none⟩) d.size cap, .int .i64 a, .int .i64 b, .int .i64 pivot] w fun e w' =>
      e = .returned (.tuple #[.int .i64 (Sort.partition Sort.ltInt d a b pivot).1, .bool (Sort.partition Sort.ltInt d a b pivot).2.1]) ∧ Sx g o T R (Sort.partition Sort.ltInt d a b pivot).2.2 w' ∧ Kp [g] w w' := by
  obtain ⟨J, rfl⟩ : ∃ J, b = J + 1 := ⟨b - 1, by omega⟩
  obtain ⟨n, hn⟩ : ∃ n, d.size = n := ⟨_, rfl⟩
  rw [hn] at hb hsz ⊢
  have HN : Hid (d.size = n) := hn
  have hw := hH
  have hk : Kp [g] w w := Kp.refl _ _
  have hsk := hn
  clear hn hH
  obtain ⟨G, hG, hcw, hfw⟩ := hw.fam hsk
  have HG : Hid (∀ t, G t = d[t]!) := hG
  have SW : Hid (∀ q, a < n → pivot < n → Sx g o T R (Sort.swp d a pivot) (swW g o d a pivot q w) ∧ Kp [g] w (swW g o d a pivot q w)) := fun q h1 h2 => hw.swap hk (by omega) (by omega) q
  obtain ⟨v3, hy3⟩ := cell?_setCell_some (w := w) (p := ⟨g, o + a, none⟩) (x := .int .u64 (G pivot)) (q := ⟨g, o + pivot, none⟩) (hcw pivot (by omega))
  clear hG hw hk
  go_enter Try.func34, Try.ntmps34
  go_wp2
  go_region
  go_wp2
  have h := SW.out 1 (by omega) (by omega)
  unfold swW at h
  rw [← HG.out, ← HG.out] at h
  obtain ⟨hw, hk⟩ := h
  clear SW hy3 hcw hfw HG
  obtain ⟨d1, h1⟩ : ∃ d1, d1 = Sort.swp d a pivot := ⟨_, rfl⟩
  rw [← h1] at hw
  have H1 : Hid (d1 = Sort.swp d a pivot) := h1
  replace hsk : d1.size = n := by rw [h1, Sort.size_swp]; exact hsk
  clear h1
  go_loopw [10] (fun vi wr => ∃ (i0 : Nat), vi = .int .i64 i0 ∧ (a + 1) ≤ i0 ∧ i0 ≤ J + 1 ∧ (Sx g o T R d1 wr ∧ Kp [g] w wr) ∧ Hid (Sort.scanUp (fun x => Sort.ltInt x d1[a]!) d1 (J) i0 = Sort.scanUp (fun x => Sort.ltInt x d1[a]!) d1 (J) ((a + 1))))
    (fun vi _ => J + 1 - (intOf vi).toNat)
  case atStart => exact ⟨(a + 1), by go_num, Nat.le_refl _, by omega, ⟨hw, hk⟩, rfl⟩
  case round =>
    clear hw hk
    obtain ⟨i0, rfl, hii, hij0, ⟨hw, hk⟩, hsc⟩ := hrel
    obtain ⟨G, hG, hcw, hfw⟩ := hw.fam hsk
    have HG : Hid (∀ t, G t = d1[t]!) := hG
    have HW : Hid (∀ q, Sx g o T R d1 (wr.drewN q) ∧ Kp [g] w (wr.drewN q)) := fun q => ⟨hw.draws q, hk.trans (kp_drewN _ _ _)⟩
    clear hG hw hk
    by_cases hle : i0 ≤ J
    · go_wp2_with fail
      go_quiet (first | (go_at_call 32; refine Calls.quiet_of_same (less_ok _ _ _)))
      go_wp2
      · have ht : Sort.ltInt (G i0) (G a) = true := by assumption
        go_roundw
        case rel => exact ⟨i0 + 1, by go_num, by omega, by omega, HW.out nq, (up_go (fun x => Sort.ltInt x d1[a]!) d1 (J) i0 hle (by have h := ht; rw [HG.out, HG.out] at h; exact h)).symm.trans hsc.out⟩
        case measure => simp [intOf]; omega
      · have ht : Sort.ltInt (G i0) (G a) = false := by assumption
        have HT : Hid (Sort.ltInt (d1[i0]!) (d1[a]!) = false) := by have h := ht; rw [HG.out, HG.out] at h; exact h
        have hi2 : Hid (i0 = Sort.scanUp (fun x => Sort.ltInt x d1[a]!) d1 (J) ((a + 1))) := (up_end (fun x => Sort.ltInt x d1[a]!) d1 (J) i0 (Or.inr HT.out)).symm.trans hsc.out
        clear hsc
        have hw := (HW.out nq).1
        have hk := (HW.out nq).2
        clear ht hcw hfw HW HG
        generalize wr.drewN nq = W2 at hw hk ⊢
        clear nq
        go_loopw [11] (fun vj wr => ∃ (j0 : Nat), vj = .int .i64 j0 ∧ j0 ≤ J ∧ i0 ≤ j0 + 1 ∧ (Sx g o T R d1 wr ∧ Kp [g] w wr) ∧ Hid (Sort.scanDown (fun x => !Sort.ltInt x d1[a]!) d1 i0 j0 = Sort.scanDown (fun x => !Sort.ltInt x d1[a]!) d1 i0 J))
          (fun vj _ => (intOf vj).toNat)
        case atStart => exact ⟨J, by go_num, Nat.le_refl _, by omega, ⟨hw, hk⟩, rfl⟩
        case round =>
          clear hw hk
          obtain ⟨j0, rfl, hjj, hij2, ⟨hw, hk⟩, hsd⟩ := hrel
          obtain ⟨G, hG, hcw, hfw⟩ := hw.fam hsk
          have HG : Hid (∀ t, G t = d1[t]!) := hG
          have HW : Hid (∀ q, Sx g o T R d1 (wr.drewN q) ∧ Kp [g] w (wr.drewN q)) := fun q => ⟨hw.draws q, hk.trans (kp_drewN _ _ _)⟩
          clear hG hw hk
          by_cases hle2 : i0 ≤ j0
          · go_wp2_with fail
            go_quiet (first | (go_at_call 32; refine Calls.quiet_of_same (less_ok _ _ _)))
            go_wp2
            · have ht : (!Sort.ltInt (G j0) (G a)) = true := by assumption
              go_roundw
              case rel => exact ⟨j0 - 1, by go_num, by omega, by omega, HW.out nq, (dn_go (fun x => !Sort.ltInt x d1[a]!) d1 i0 j0 hle2 (by omega) (by have h := ht; rw [HG.out, HG.out] at h; exact h)).symm.trans hsd.out⟩
              case measure => simp [intOf]; omega
            · have ht : (!Sort.ltInt (G j0) (G a)) = false := by assumption
              have hj2 : Hid (j0 = Sort.scanDown (fun x => !Sort.ltInt x d1[a]!) d1 i0 J) := (dn_end (fun x => !Sort.ltInt x d1[a]!) d1 i0 j0 (Or.inr (by have h := ht; rw [HG.out, HG.out] at h; exact h))).symm.trans hsd.out
              have hne : i0 < j0 := by
                rcases Nat.lt_or_ge i0 j0 with h | h
                · exact h
                · obtain rfl : i0 = j0 := by omega
                  have h1 := HT.out
                  have h2 := ht
                  rw [HG.out, HG.out] at h2
                  simp at h1 h2
                  rw [h1] at h2
                  cases h2
              clear hsd HT
              have hw := (HW.out nq).1
              have hk := (HW.out nq).2
              clear ht hcw hfw HW HG
              generalize wr.drewN nq = W2 at hw hk ⊢
              clear nq
              obtain ⟨G, hG, hcw, hfw⟩ := hw.fam hsk
              have HG : Hid (∀ t, G t = d1[t]!) := hG
              have SW : Hid (∀ q, i0 < n → j0 < n → Sx g o T R (Sort.swp d1 i0 j0) (swW g o d1 i0 j0 q W2) ∧ Kp [g] w (swW g o d1 i0 j0 q W2)) := fun q h1 h2 => hw.swap hk (by omega) (by omega) q
              obtain ⟨v3, hy3⟩ := cell?_setCell_some (w := W2) (p := ⟨g, o + i0, none⟩) (x := .int .u64 (G j0)) (q := ⟨g, o + j0, none⟩) (hcw j0 (by omega))
              clear hG hw hk
              have HI2 : Hid (i0 = Sort.scanUp (fun x => Sort.ltInt x d1[a]!) d1 J (a + 1)) := hi2
              have HJ2 : Hid (j0 = Sort.scanDown (fun x => !Sort.ltInt x d1[a]!) d1 i0 J) := hj2
              have HNE : Hid (i0 < j0) := hne
              clear hi2 hj2
              go_wp2
              go_region
              all_goals go_wp2
              have h := SW.out 1 (by omega) (by omega)
              unfold swW at h
              rw [← HG.out, ← HG.out] at h
              obtain ⟨hw, hk⟩ := h
              clear SW hy3 hcw hfw HG
              go_loopw [10, 11] (fun vi vj wr => ∃ (i j : Nat) (dk : Array Int), vi = .int .i64 i ∧ vj = .int .i64 j ∧ a < i ∧ i ≤ j + 1 ∧ j ≤ J ∧ dk.size = n ∧ (Sx g o T R dk wr ∧ Kp [g] w wr) ∧
                  Hid (Sort.partLoop Sort.ltInt a i j dk = Sort.partLoop Sort.ltInt a (i0 + 1) (j0 - 1) (Sort.swp d1 i0 j0)))
                (fun vi vj _ => (intOf vj).toNat + 1 - (intOf vi).toNat)
              case atStart => exact ⟨i0 + 1, j0 - 1, Sort.swp d1 i0 j0, by go_num, by go_num, by omega, by omega, by omega, by rw [Sort.size_swp]; exact hsk, ⟨hw, hk⟩, rfl⟩
              case round =>
                clear hw hk hsk hle hle2 hii hij0 hjj hij2
                obtain ⟨i, j, dk, rfl, rfl, hai, hij, hjb, hsk, ⟨hw, hk⟩, HE⟩ := hrel
                go_wp2
                go_loopw [10] (fun vi wr => ∃ (i1 : Nat), vi = .int .i64 i1 ∧ i ≤ i1 ∧ i1 ≤ j + 1 ∧ (Sx g o T R dk wr ∧ Kp [g] w wr) ∧ Hid (Sort.scanUp (fun x => Sort.ltInt x dk[a]!) dk (j) i1 = Sort.scanUp (fun x => Sort.ltInt x dk[a]!) dk (j) (i)))
                  (fun vi _ => j + 1 - (intOf vi).toNat)
                case atStart => exact ⟨i, by go_num, Nat.le_refl _, by omega, ⟨hw, hk⟩, rfl⟩
                case round =>
                  clear hw hk
                  obtain ⟨i1, rfl, hii, hij1, ⟨hw, hk⟩, hsc⟩ := hrel
                  obtain ⟨G, hG, hcw, hfw⟩ := hw.fam hsk
                  have HG : Hid (∀ t, G t = dk[t]!) := hG
                  have HW : Hid (∀ q, Sx g o T R dk (wr.drewN q) ∧ Kp [g] w (wr.drewN q)) := fun q => ⟨hw.draws q, hk.trans (kp_drewN _ _ _)⟩
                  clear hG hw hk
                  by_cases hle : i1 ≤ j
                  · go_wp2_with fail
                    go_quiet (first | (go_at_call 32; refine Calls.quiet_of_same (less_ok _ _ _)))
                    go_wp2
                    · have ht : Sort.ltInt (G i1) (G a) = true := by assumption
                      go_roundw
                      case rel => exact ⟨i1 + 1, by go_num, by omega, by omega, HW.out nq, (up_go (fun x => Sort.ltInt x dk[a]!) dk (j) i1 hle (by have h := ht; rw [HG.out, HG.out] at h; exact h)).symm.trans hsc.out⟩
                      case measure => simp [intOf]; omega
                    · have ht : Sort.ltInt (G i1) (G a) = false := by assumption
                      have HT : Hid (Sort.ltInt (dk[i1]!) (dk[a]!) = false) := by have h := ht; rw [HG.out, HG.out] at h; exact h
                      have hi2 : Hid (i1 = Sort.scanUp (fun x => Sort.ltInt x dk[a]!) dk (j) (i)) := (up_end (fun x => Sort.ltInt x dk[a]!) dk (j) i1 (Or.inr HT.out)).symm.trans hsc.out
                      clear hsc
                      have hw := (HW.out nq).1
                      have hk := (HW.out nq).2
                      clear ht hcw hfw HW HG
                      generalize wr.drewN nq = W2 at hw hk ⊢
                      clear nq
                      go_loopw [11] (fun vj wr => ∃ (j1 : Nat), vj = .int .i64 j1 ∧ j1 ≤ j ∧ i1 ≤ j1 + 1 ∧ (Sx g o T R dk wr ∧ Kp [g] w wr) ∧ Hid (Sort.scanDown (fun x => !Sort.ltInt x dk[a]!) dk i1 j1 = Sort.scanDown (fun x => !Sort.ltInt x dk[a]!) dk i1 j))
                        (fun vj _ => (intOf vj).toNat)
                      case atStart => exact ⟨j, by go_num, Nat.le_refl _, by omega, ⟨hw, hk⟩, rfl⟩
                      case round =>
                        clear hw hk
                        obtain ⟨j1, rfl, hjj, hij2, ⟨hw, hk⟩, hsd⟩ := hrel
                        obtain ⟨G, hG, hcw, hfw⟩ := hw.fam hsk
                        have HG : Hid (∀ t, G t = dk[t]!) := hG
                        have HW : Hid (∀ q, Sx g o T R dk (wr.drewN q) ∧ Kp [g] w (wr.drewN q)) := fun q => ⟨hw.draws q, hk.trans (kp_drewN _ _ _)⟩
                        clear hG hw hk
                        by_cases hle2 : i1 ≤ j1
                        · go_wp2_with fail
                          go_quiet (first | (go_at_call 32; refine Calls.quiet_of_same (less_ok _ _ _)))
                          go_wp2
                          · have ht : (!Sort.ltInt (G j1) (G a)) = true := by assumption
                            go_roundw
                            case rel => exact ⟨j1 - 1, by go_num, by omega, by omega, HW.out nq, (dn_go (fun x => !Sort.ltInt x dk[a]!) dk i1 j1 hle2 (by omega) (by have h := ht; rw [HG.out, HG.out] at h; exact h)).symm.trans hsd.out⟩
                            case measure => simp [intOf]; omega
                          · have ht : (!Sort.ltInt (G j1) (G a)) = false := by assumption
                            have hj2 : Hid (j1 = Sort.scanDown (fun x => !Sort.ltInt x dk[a]!) dk i1 j) := (dn_end (fun x => !Sort.ltInt x dk[a]!) dk i1 j1 (Or.inr (by have h := ht; rw [HG.out, HG.out] at h; exact h))).symm.trans hsd.out
                            have hne : i1 < j1 := by
                              rcases Nat.lt_or_ge i1 j1 with h | h
                              · exact h
                              · obtain rfl : i1 = j1 := by omega
                                have h1 := HT.out
                                have h2 := ht
                                rw [HG.out, HG.out] at h2
                                simp at h1 h2
                                rw [h1] at h2
                                cases h2
                            clear hsd HT
                            have hw := (HW.out nq).1
                            have hk := (HW.out nq).2
                            clear ht hcw hfw HW HG
                            generalize wr.drewN nq = W2 at hw hk ⊢
                            clear nq
                            obtain ⟨G, hG, hcw, hfw⟩ := hw.fam hsk
                            have HG : Hid (∀ t, G t = dk[t]!) := hG
                            have SW : Hid (∀ q, i1 < n → j1 < n → Sx g o T R (Sort.swp dk i1 j1) (swW g o dk i1 j1 q W2) ∧ Kp [g] w (swW g o dk i1 j1 q W2)) := fun q h1 h2 => hw.swap hk (by omega) (by omega) q
                            obtain ⟨v3, hy3⟩ := cell?_setCell_some (w := W2) (p := ⟨g, o + i1, none⟩) (x := .int .u64 (G j1)) (q := ⟨g, o + j1, none⟩) (hcw j1 (by omega))
                            clear hG hw hk
                            go_wp2
                            go_region
                            all_goals go_wp2
                            all_goals go_roundw
                            case rel =>
                              refine ⟨i1 + 1, j1 - 1, Sort.swp dk i1 j1, by go_num, by go_num, by omega, by omega, by omega, by rw [Sort.size_swp]; exact hsk, ?_, ?_⟩
                              · have h := SW.out 1 (by omega) (by omega)
                                unfold swW at h
                                rw [← HG.out, ← HG.out] at h
                                exact h
                              · exact (par_go Sort.ltInt a i j dk hi2.out hj2.out hne).symm.trans HE.out
                            case measure => simp [intOf]; omega
                        · go_wp2_with fail
                          go_quiet (first | (go_at_call 32; refine Calls.quiet_of_same (less_ok _ _ _)))
                          have ht : True := trivial
                          have hj2 : Hid (j1 = Sort.scanDown (fun x => !Sort.ltInt x dk[a]!) dk i1 j) := (dn_end (fun x => !Sort.ltInt x dk[a]!) dk i1 j1 (Or.inl hle2)).symm.trans hsd.out
                          clear hsd HT
                          have hw := (HW.out nq).1
                          have hk := (HW.out nq).2
                          clear ht hcw hfw HW HG
                          generalize wr.drewN nq = W2 at hw hk ⊢
                          clear nq
                          obtain ⟨G, hG, hcw, hfw⟩ := hw.fam hsk
                          have HG : Hid (∀ t, G t = dk[t]!) := hG
                          have SW : Hid (∀ q, j1 < n → a < n → Sx g o T R (Sort.swp dk j1 a) (swW g o dk j1 a q W2) ∧ Kp [g] w (swW g o dk j1 a q W2)) := fun q h1 h2 => hw.swap hk (by omega) (by omega) q
                          obtain ⟨v3, hy3⟩ := cell?_setCell_some (w := W2) (p := ⟨g, o + j1, none⟩) (x := .int .u64 (G a)) (q := ⟨g, o + a, none⟩) (hcw a (by omega))
                          clear hG hw hk
                          have HP : Hid (Sort.partition Sort.ltInt d a (J + 1) pivot = (j1, false, Sort.swp dk j1 a)) := par_two (r := (j1, dk)) Sort.ltInt a (J + 1) pivot d d1 H1.out HI2.out HJ2.out HNE.out (HE.out.symm.trans (par_break Sort.ltInt a i j dk hi2.out hj2.out (by omega)))
                          go_wp2
                          go_region
                          all_goals go_wp2
                          all_goals go_ret2
                          have h := SW.out 1 (by omega) (by omega)
                          unfold swW at h
                          rw [← HG.out, ← HG.out] at h
                          rw [HP.out]
                          exact ⟨rfl, h⟩
                  · go_wp2_with fail
                    go_quiet (first | (go_at_call 32; refine Calls.quiet_of_same (less_ok _ _ _)))
                    have ht : True := trivial
                    have hi2 : Hid (i1 = Sort.scanUp (fun x => Sort.ltInt x dk[a]!) dk (j) (i)) := (up_end (fun x => Sort.ltInt x dk[a]!) dk (j) i1 (Or.inl hle)).symm.trans hsc.out
                    clear hsc
                    have hw := (HW.out nq).1
                    have hk := (HW.out nq).2
                    clear ht hcw hfw HW HG
                    generalize wr.drewN nq = W2 at hw hk ⊢
                    clear nq
                    go_wp2_with fail
                    go_loopw [11] (fun vj wr => ∃ (j1 : Nat), vj = .int .i64 j1 ∧ j1 ≤ j ∧ i1 ≤ j1 + 1 ∧ (Sx g o T R dk wr ∧ Kp [g] w wr) ∧ Hid (Sort.scanDown (fun x => !Sort.ltInt x dk[a]!) dk i1 j1 = Sort.scanDown (fun x => !Sort.ltInt x dk[a]!) dk i1 j))
                      (fun vj _ => (intOf vj).toNat)
                    case atStart => exact ⟨j, by go_num, Nat.le_refl _, by omega, ⟨hw, hk⟩, rfl⟩
                    case round =>
                      clear hw hk
                      obtain ⟨j1, rfl, hjj, hij2, ⟨hw, hk⟩, hsd⟩ := hrel
                      obtain ⟨G, hG, hcw, hfw⟩ := hw.fam hsk
                      have HG : Hid (∀ t, G t = dk[t]!) := hG
                      have HW : Hid (∀ q, Sx g o T R dk (wr.drewN q) ∧ Kp [g] w (wr.drewN q)) := fun q => ⟨hw.draws q, hk.trans (kp_drewN _ _ _)⟩
                      clear hG hw hk
                      by_cases hle2 : i1 ≤ j1
                      · exfalso
                        omega
                      · go_wp2_with fail
                        go_quiet (first | (go_at_call 32; refine Calls.quiet_of_same (less_ok _ _ _)))
                        have ht : True := trivial
                        have hj2 : Hid (j1 = Sort.scanDown (fun x => !Sort.ltInt x dk[a]!) dk i1 j) := (dn_end (fun x => !Sort.ltInt x dk[a]!) dk i1 j1 (Or.inl hle2)).symm.trans hsd.out
                        clear hsd
                        have hw := (HW.out nq).1
                        have hk := (HW.out nq).2
                        clear ht hcw hfw HW HG
                        generalize wr.drewN nq = W2 at hw hk ⊢
                        clear nq
                        obtain ⟨G, hG, hcw, hfw⟩ := hw.fam hsk
                        have HG : Hid (∀ t, G t = dk[t]!) := hG
                        have SW : Hid (∀ q, j1 < n → a < n → Sx g o T R (Sort.swp dk j1 a) (swW g o dk j1 a q W2) ∧ Kp [g] w (swW g o dk j1 a q W2)) := fun q h1 h2 => hw.swap hk (by omega) (by omega) q
                        obtain ⟨v3, hy3⟩ := cell?_setCell_some (w := W2) (p := ⟨g, o + j1, none⟩) (x := .int .u64 (G a)) (q := ⟨g, o + a, none⟩) (hcw a (by omega))
                        clear hG hw hk
                        have HP : Hid (Sort.partition Sort.ltInt d a (J + 1) pivot = (j1, false, Sort.swp dk j1 a)) := par_two (r := (j1, dk)) Sort.ltInt a (J + 1) pivot d d1 H1.out HI2.out HJ2.out HNE.out (HE.out.symm.trans (par_break Sort.ltInt a i j dk hi2.out hj2.out (by omega)))
                        go_wp2
                        go_region
                        all_goals go_wp2
                        all_goals go_ret2
                        have h := SW.out 1 (by omega) (by omega)
                        unfold swW at h
                        rw [← HG.out, ← HG.out] at h
                        rw [HP.out]
                        exact ⟨rfl, h⟩
          · go_wp2_with fail
            go_quiet (first | (go_at_call 32; refine Calls.quiet_of_same (less_ok _ _ _)))
            have ht : True := trivial
            have hj2 : Hid (j0 = Sort.scanDown (fun x => !Sort.ltInt x d1[a]!) d1 i0 J) := (dn_end (fun x => !Sort.ltInt x d1[a]!) d1 i0 j0 (Or.inl hle2)).symm.trans hsd.out
            clear hsd HT
            have hw := (HW.out nq).1
            have hk := (HW.out nq).2
            clear ht hcw hfw HW HG
            generalize wr.drewN nq = W2 at hw hk ⊢
            clear nq
            obtain ⟨G, hG, hcw, hfw⟩ := hw.fam hsk
            have HG : Hid (∀ t, G t = d1[t]!) := hG
            have SW : Hid (∀ q, j0 < n → a < n → Sx g o T R (Sort.swp d1 j0 a) (swW g o d1 j0 a q W2) ∧ Kp [g] w (swW g o d1 j0 a q W2)) := fun q h1 h2 => hw.swap hk (by omega) (by omega) q
            obtain ⟨v3, hy3⟩ := cell?_setCell_some (w := W2) (p := ⟨g, o + j0, none⟩) (x := .int .u64 (G a)) (q := ⟨g, o + a, none⟩) (hcw a (by omega))
            clear hG hw hk
            have HP : Hid (Sort.partition Sort.ltInt d a (J + 1) pivot = (j0, true, Sort.swp d1 j0 a)) := par_one Sort.ltInt a (J + 1) pivot d d1 H1.out hi2.out hj2.out (by omega)
            go_wp2
            go_region
            all_goals go_wp2
            all_goals go_ret2
            have h := SW.out 1 (by omega) (by omega)
            unfold swW at h
            rw [← HG.out, ← HG.out] at h
            rw [HP.out]
            exact ⟨rfl, h⟩
    · go_wp2_with fail
      go_quiet (first | (go_at_call 32; refine Calls.quiet_of_same (less_ok _ _ _)))
      have ht : True := trivial
      have hi2 : Hid (i0 = Sort.scanUp (fun x => Sort.ltInt x d1[a]!) d1 (J) ((a + 1))) := (up_end (fun x => Sort.ltInt x d1[a]!) d1 (J) i0 (Or.inl hle)).symm.trans hsc.out
      clear hsc
      have hw := (HW.out nq).1
      have hk := (HW.out nq).2
      clear ht hcw hfw HW HG
      generalize wr.drewN nq = W2 at hw hk ⊢
      clear nq
      go_wp2_with fail
      go_loopw [11] (fun vj wr => ∃ (j0 : Nat), vj = .int .i64 j0 ∧ j0 ≤ J ∧ i0 ≤ j0 + 1 ∧ (Sx g o T R d1 wr ∧ Kp [g] w wr) ∧ Hid (Sort.scanDown (fun x => !Sort.ltInt x d1[a]!) d1 i0 j0 = Sort.scanDown (fun x => !Sort.ltInt x d1[a]!) d1 i0 J))
        (fun vj _ => (intOf vj).toNat)
      case atStart => exact ⟨J, by go_num, Nat.le_refl _, by omega, ⟨hw, hk⟩, rfl⟩
      case round =>
        clear hw hk
        obtain ⟨j0, rfl, hjj, hij2, ⟨hw, hk⟩, hsd⟩ := hrel
        obtain ⟨G, hG, hcw, hfw⟩ := hw.fam hsk
        have HG : Hid (∀ t, G t = d1[t]!) := hG
        have HW : Hid (∀ q, Sx g o T R d1 (wr.drewN q) ∧ Kp [g] w (wr.drewN q)) := fun q => ⟨hw.draws q, hk.trans (kp_drewN _ _ _)⟩
        clear hG hw hk
        by_cases hle2 : i0 ≤ j0
        · exfalso
          omega
        · go_wp2_with fail
          go_quiet (first | (go_at_call 32; refine Calls.quiet_of_same (less_ok _ _ _)))
          have ht : True := trivial
          have hj2 : Hid (j0 = Sort.scanDown (fun x => !Sort.ltInt x d1[a]!) d1 i0 J) := (dn_end (fun x => !Sort.ltInt x d1[a]!) d1 i0 j0 (Or.inl hle2)).symm.trans hsd.out
          clear hsd
          have hw := (HW.out nq).1
          have hk := (HW.out nq).2
          clear ht hcw hfw HW HG
          generalize wr.drewN nq = W2 at hw hk ⊢
          clear nq
          obtain ⟨G, hG, hcw, hfw⟩ := hw.fam hsk
          have HG : Hid (∀ t, G t = d1[t]!) := hG
          have SW : Hid (∀ q, j0 < n → a < n → Sx g o T R (Sort.swp d1 j0 a) (swW g o d1 j0 a q W2) ∧ Kp [g] w (swW g o d1 j0 a q W2)) := fun q h1 h2 => hw.swap hk (by omega) (by omega) q
          obtain ⟨v3, hy3⟩ := cell?_setCell_some (w := W2) (p := ⟨g, o + j0, none⟩) (x := .int .u64 (G a)) (q := ⟨g, o + a, none⟩) (hcw a (by omega))
          clear hG hw hk
          have HP : Hid (Sort.partition Sort.ltInt d a (J + 1) pivot = (j0, true, Sort.swp d1 j0 a)) := par_one Sort.ltInt a (J + 1) pivot d d1 H1.out hi2.out hj2.out (by omega)
          go_wp2
          go_region
          all_goals go_wp2
          all_goals go_ret2
          have h := SW.out 1 (by omega) (by omega)
          unfold swW at h
          rw [← HG.out, ← HG.out] at h
          rw [HP.out]
          exact ⟨rfl, h⟩

end Go.Proofs.Ytkppidcamhbddaa
