/-
  slices.partitionEqualOrdered of uint64.
  The bounds lie within the row.
-/
import Derived.Test.YtkppidcamhbddaaSoB
namespace Go.Proofs.Ytkppidcamhbddaa
set_option maxRecDepth 10000
open Go.RowKit

theorem peq_break {α : Type} [Inhabited α] (lt : α → α → Bool) (a i j : Nat) (d : Array α) {i2 j2 : Nat} (hi : i2 = Sort.scanUp (fun x => !lt d[a]! x) d j i) (hj : j2 = Sort.scanDown (fun x => lt d[a]! x) d i2 j) (h : j2 < i2) : Sort.partEqLoop lt a i j d = (i2, d) := by
  subst hj hi
  rw [Sort.partEqLoop_eq, if_pos h]
theorem peq_go {α : Type} [Inhabited α] (lt : α → α → Bool) (a i j : Nat) (d : Array α) {i2 j2 : Nat} (hi : i2 = Sort.scanUp (fun x => !lt d[a]! x) d j i) (hj : j2 = Sort.scanDown (fun x => lt d[a]! x) d i2 j) (h : i2 < j2) : Sort.partEqLoop lt a i j d = Sort.partEqLoop lt a (i2 + 1) (j2 - 1) (Sort.swp d i2 j2) := by
  subst hj hi
  rw [Sort.partEqLoop_eq, if_neg (by omega)]
set_option maxHeartbeats 16000000 in
set_option maxRecDepth 100000 in
theorem peq_ok (g o cap a b pivot : Nat) (T : TypeId) (R : List Value × List Value) (d : Array Int) (w : World) (hH : Sx g o T R d w) (hap : a ≤ pivot) (hpb : pivot < b) (hb : b ≤ d.size) (hsz : d.size < 1152921504606846976) :
    Calls Try.prog 33 #[.slice (some ⟨g, o, none⟩) d.size cap, .int .i64 a, .int .i64 b, .int .i64 pivot] w fun e w' =>
      e = .returned (.int .i64 (Sort.partitionEqual Sort.ltInt d a b pivot).1) ∧ Sx g o T R (Sort.partitionEqual Sort.ltInt d a b pivot).2 w' ∧ Kp [g] w w' := by
  obtain ⟨n, hn⟩ : ∃ n, d.size = n := ⟨_, rfl⟩
  rw [hn] at hb hsz ⊢
  have HN : Hid (d.size = n) := hn
  have hw := hH
  have hk : Kp [g] w w := Kp.refl _ _
  have hsk := hn
  clear hn hH
  obtain ⟨G, hG, hcw, hfw⟩ := hw.fam hsk
  have HG : Hid (∀ t, G t = d[t]!) := hG
  have SW : Hid (∀ q, a < n → pivot < n → Sx g o T R (Sort.swp d a pivot) (swW g o d a pivot q w) ∧ Kp [g] w (swW g o d a pivot q w)) := fun q h1 h2 => hw.swap hk (by omega) (by omega) q
  obtain ⟨v3, hy3⟩ := cell?_setCell_some (w := w) (p := ⟨g, o + a, none⟩) (x := .int .u64 (G pivot)) (q := ⟨g, o + pivot, none⟩) (hcw pivot (by omega))
  clear hG hw hk
  go_enter Try.func33, Try.ntmps33
  go_wp2
  go_region
  go_wp2
  have h := SW.out 1 (by omega) (by omega)
  unfold swW at h
  rw [← HG.out, ← HG.out] at h
  obtain ⟨hw, hk⟩ := h
  clear SW hy3 hcw hfw HG
  go_loopw [9, 10] (fun vi vj wr => ∃ (i j : Nat) (dk : Array Int), vi = .int .i64 i ∧ vj = .int .i64 j ∧ a < i ∧ i ≤ j + 1 ∧ j < b ∧ dk.size = n ∧ (Sx g o T R dk wr ∧ Kp [g] w wr) ∧
      Hid (Sort.partEqLoop Sort.ltInt a i j dk = Sort.partEqLoop Sort.ltInt a (a + 1) (b - 1) (Sort.swp d a pivot)))
    (fun vi vj _ => (intOf vj).toNat + 1 - (intOf vi).toNat)
  case atStart => exact ⟨a + 1, b - 1, Sort.swp d a pivot, by go_num, by go_num, by omega, by omega, by omega, by rw [Sort.size_swp]; exact hsk, ⟨hw, hk⟩, rfl⟩
  case round =>
    clear hw hk hsk
    obtain ⟨i, j, dk, rfl, rfl, hai, hij, hjb, hsk, ⟨hw, hk⟩, HE⟩ := hrel
    go_wp2
    go_loopw [9] (fun vi wr => ∃ (i1 : Nat), vi = .int .i64 i1 ∧ i ≤ i1 ∧ i1 ≤ j + 1 ∧ (Sx g o T R dk wr ∧ Kp [g] w wr) ∧ Hid (Sort.scanUp (fun x => !Sort.ltInt dk[a]! x) dk (j) i1 = Sort.scanUp (fun x => !Sort.ltInt dk[a]! x) dk (j) (i)))
      (fun vi _ => j + 1 - (intOf vi).toNat)
    case atStart => exact ⟨i, by go_num, Nat.le_refl _, by omega, ⟨hw, hk⟩, rfl⟩
    case round =>
      clear hw hk
      obtain ⟨i1, rfl, hii, hij1, ⟨hw, hk⟩, hsc⟩ := hrel
      obtain ⟨G, hG, hcw, hfw⟩ := hw.fam hsk
      have HG : Hid (∀ t, G t = dk[t]!) := hG
      have HW : Hid (∀ q, Sx g o T R dk (wr.drewN q) ∧ Kp [g] w (wr.drewN q)) := fun q => ⟨hw.draws q, hk.trans (kp_drewN _ _ _)⟩
      clear hG hw hk
      by_cases hle : i1 ≤ j
      · go_wp2_with fail
        go_quiet (first | (go_at_call 32; refine Calls.quiet_of_same (less_ok _ _ _)))
        go_wp2
        · have ht : (!Sort.ltInt (G a) (G i1)) = true := by assumption
          go_roundw
          case rel => exact ⟨i1 + 1, by go_num, by omega, by omega, HW.out nq, (up_go (fun x => !Sort.ltInt dk[a]! x) dk (j) i1 hle (by have h := ht; rw [HG.out, HG.out] at h; exact h)).symm.trans hsc.out⟩
          case measure => simp [intOf]; omega
        · have ht : (!Sort.ltInt (G a) (G i1)) = false := by assumption
          have HT : Hid ((!Sort.ltInt (dk[a]!) (dk[i1]!)) = false) := by have h := ht; rw [HG.out, HG.out] at h; exact h
          have hi2 : Hid (i1 = Sort.scanUp (fun x => !Sort.ltInt dk[a]! x) dk (j) (i)) := (up_end (fun x => !Sort.ltInt dk[a]! x) dk (j) i1 (Or.inr HT.out)).symm.trans hsc.out
          clear hsc
          have hw := (HW.out nq).1
          have hk := (HW.out nq).2
          clear ht hcw hfw HW HG
          generalize wr.drewN nq = W2 at hw hk ⊢
          clear nq
          go_loopw [10] (fun vj wr => ∃ (j1 : Nat), vj = .int .i64 j1 ∧ j1 ≤ j ∧ i1 ≤ j1 + 1 ∧ (Sx g o T R dk wr ∧ Kp [g] w wr) ∧ Hid (Sort.scanDown (fun x => Sort.ltInt dk[a]! x) dk i1 j1 = Sort.scanDown (fun x => Sort.ltInt dk[a]! x) dk i1 j))
            (fun vj _ => (intOf vj).toNat)
          case atStart => exact ⟨j, by go_num, Nat.le_refl _, by omega, ⟨hw, hk⟩, rfl⟩
          case round =>
            clear hw hk
            obtain ⟨j1, rfl, hjj, hij2, ⟨hw, hk⟩, hsd⟩ := hrel
            obtain ⟨G, hG, hcw, hfw⟩ := hw.fam hsk
            have HG : Hid (∀ t, G t = dk[t]!) := hG
            have HW : Hid (∀ q, Sx g o T R dk (wr.drewN q) ∧ Kp [g] w (wr.drewN q)) := fun q => ⟨hw.draws q, hk.trans (kp_drewN _ _ _)⟩
            clear hG hw hk
            by_cases hle2 : i1 ≤ j1
            · go_wp2_with fail
              go_quiet (first | (go_at_call 32; refine Calls.quiet_of_same (less_ok _ _ _)))
              go_wp2
              · have ht : Sort.ltInt (G a) (G j1) = true := by assumption
                go_roundw
                case rel => exact ⟨j1 - 1, by go_num, by omega, by omega, HW.out nq, (dn_go (fun x => Sort.ltInt dk[a]! x) dk i1 j1 hle2 (by omega) (by have h := ht; rw [HG.out, HG.out] at h; exact h)).symm.trans hsd.out⟩
                case measure => simp [intOf]; omega
              · have ht : Sort.ltInt (G a) (G j1) = false := by assumption
                have hj2 : Hid (j1 = Sort.scanDown (fun x => Sort.ltInt dk[a]! x) dk i1 j) := (dn_end (fun x => Sort.ltInt dk[a]! x) dk i1 j1 (Or.inr (by have h := ht; rw [HG.out, HG.out] at h; exact h))).symm.trans hsd.out
                have hne : i1 < j1 := by
                  rcases Nat.lt_or_ge i1 j1 with h | h
                  · exact h
                  · obtain rfl : i1 = j1 := by omega
                    have h1 := HT.out
                    have h2 := ht
                    rw [HG.out, HG.out] at h2
                    simp at h1 h2
                    rw [h1] at h2
                    cases h2
                clear hsd HT
                have hw := (HW.out nq).1
                have hk := (HW.out nq).2
                clear ht hcw hfw HW HG
                generalize wr.drewN nq = W2 at hw hk ⊢
                clear nq
                obtain ⟨G, hG, hcw, hfw⟩ := hw.fam hsk
                have HG : Hid (∀ t, G t = dk[t]!) := hG
                have SW : Hid (∀ q, i1 < n → j1 < n → Sx g o T R (Sort.swp dk i1 j1) (swW g o dk i1 j1 q W2) ∧ Kp [g] w (swW g o dk i1 j1 q W2)) := fun q h1 h2 => hw.swap hk (by omega) (by omega) q
                obtain ⟨v3, hy3⟩ := cell?_setCell_some (w := W2) (p := ⟨g, o + i1, none⟩) (x := .int .u64 (G j1)) (q := ⟨g, o + j1, none⟩) (hcw j1 (by omega))
                clear hG hw hk
                go_wp2
                go_region
                all_goals go_wp2
                all_goals go_roundw
                case rel =>
                  refine ⟨i1 + 1, j1 - 1, Sort.swp dk i1 j1, by go_num, by go_num, by omega, by omega, by omega, by rw [Sort.size_swp]; exact hsk, ?_, ?_⟩
                  · have h := SW.out 1 (by omega) (by omega)
                    unfold swW at h
                    rw [← HG.out, ← HG.out] at h
                    exact h
                  · exact (peq_go Sort.ltInt a i j dk hi2.out hj2.out hne).symm.trans HE.out
                case measure => simp [intOf]; omega
            · go_wp2_with fail
              go_quiet (first | (go_at_call 32; refine Calls.quiet_of_same (less_ok _ _ _)))
              have ht : True := trivial
              have hj2 : Hid (j1 = Sort.scanDown (fun x => Sort.ltInt dk[a]! x) dk i1 j) := (dn_end (fun x => Sort.ltInt dk[a]! x) dk i1 j1 (Or.inl hle2)).symm.trans hsd.out
              clear hsd HT
              have hw := (HW.out nq).1
              have hk := (HW.out nq).2
              clear ht hcw hfw HW HG
              generalize wr.drewN nq = W2 at hw hk ⊢
              clear nq
              go_wp2
              go_ret
              have e : Sort.partEqLoop Sort.ltInt a (a + 1) (b - 1) (Sort.swp d a pivot) = (i1, dk) := by rw [← HE.out]; exact peq_break Sort.ltInt a i j dk hi2.out hj2.out (by omega)
              unfold Sort.partitionEqual
              rw [e]
              exact ⟨rfl, hw, hk⟩
      · go_wp2_with fail
        go_quiet (first | (go_at_call 32; refine Calls.quiet_of_same (less_ok _ _ _)))
        have ht : True := trivial
        have hi2 : Hid (i1 = Sort.scanUp (fun x => !Sort.ltInt dk[a]! x) dk (j) (i)) := (up_end (fun x => !Sort.ltInt dk[a]! x) dk (j) i1 (Or.inl hle)).symm.trans hsc.out
        clear hsc
        have hw := (HW.out nq).1
        have hk := (HW.out nq).2
        clear ht hcw hfw HW HG
        generalize wr.drewN nq = W2 at hw hk ⊢
        clear nq
        go_wp2_with fail
        go_loopw [10] (fun vj wr => ∃ (j1 : Nat), vj = .int .i64 j1 ∧ j1 ≤ j ∧ i1 ≤ j1 + 1 ∧ (Sx g o T R dk wr ∧ Kp [g] w wr) ∧ Hid (Sort.scanDown (fun x => Sort.ltInt dk[a]! x) dk i1 j1 = Sort.scanDown (fun x => Sort.ltInt dk[a]! x) dk i1 j))
          (fun vj _ => (intOf vj).toNat)
        case atStart => exact ⟨j, by go_num, Nat.le_refl _, by omega, ⟨hw, hk⟩, rfl⟩
        case round =>
          clear hw hk
          obtain ⟨j1, rfl, hjj, hij2, ⟨hw, hk⟩, hsd⟩ := hrel
          obtain ⟨G, hG, hcw, hfw⟩ := hw.fam hsk
          have HG : Hid (∀ t, G t = dk[t]!) := hG
          have HW : Hid (∀ q, Sx g o T R dk (wr.drewN q) ∧ Kp [g] w (wr.drewN q)) := fun q => ⟨hw.draws q, hk.trans (kp_drewN _ _ _)⟩
          clear hG hw hk
          by_cases hle2 : i1 ≤ j1
          · exfalso
            omega
          · go_wp2_with fail
            go_quiet (first | (go_at_call 32; refine Calls.quiet_of_same (less_ok _ _ _)))
            have ht : True := trivial
            have hj2 : Hid (j1 = Sort.scanDown (fun x => Sort.ltInt dk[a]! x) dk i1 j) := (dn_end (fun x => Sort.ltInt dk[a]! x) dk i1 j1 (Or.inl hle2)).symm.trans hsd.out
            clear hsd
            have hw := (HW.out nq).1
            have hk := (HW.out nq).2
            clear ht hcw hfw HW HG
            generalize wr.drewN nq = W2 at hw hk ⊢
            clear nq
            go_wp2
            go_ret
            have e : Sort.partEqLoop Sort.ltInt a (a + 1) (b - 1) (Sort.swp d a pivot) = (i1, dk) := by rw [← HE.out]; exact peq_break Sort.ltInt a i j dk hi2.out hj2.out (by omega)
            unfold Sort.partitionEqual
            rw [e]
            exact ⟨rfl, hw, hk⟩

end Go.Proofs.Ytkppidcamhbddaa
