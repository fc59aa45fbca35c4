/-
  The document's numbers in digits: what its Digits and Signed answer.
  No condition.
-/
import Derived.Test.YtiepdfngjfhadaaDoorPaB
import Derived.Test.YtiepdfngjfhadaaDoorLr
namespace Go.Proofs.YtiepdfngjfhadaaDoor
set_option maxRecDepth 10000
open Go.RowKit Go.Sort
set_option linter.unusedVariables false
set_option linter.unusedSimpArgs false

def digS : ByteArray := { data := #[48, 49, 50, 51, 52, 53, 54, 55, 56, 57] }
theorem dig_cut : ∀ n : Fin 10, digS.extract n.val (n.val + 1) = strB [dig n.val] := by decide
theorem digit_sl (k : Nat) (h : k < 10) (q : IntKind) (i j : Int) (hi : i = (k : Int)) (hj : j = (k : Int) + 1) (W : World) : (Instr.slice 9 (.string { data := #[48, 49, 50, 51, 52, 53, 54, 55, 56, 57] }) (some (.int q i)) (some (.int q j)) none).run Tryd.prog W = .ok (.string (strB [dig k])) W := by
  subst hi hj
  show (Instr.slice 9 (.string digS) _ _ none).run Tryd.prog W = _
  have hs : digS.size = 10 := rfl
  rw [run_slice_string W 9 digS q q (k : Int) ((k : Int) + 1) Tryd.underlying9 (by omega) (by omega) (by rw [hs]; omega), show ((k : Int)).toNat = k by omega, show ((k : Int) + 1).toNat = k + 1 by omega, dig_cut ⟨k, h⟩]
theorem dig_mod (n : Nat) : dig (n % 10) = dig n := by unfold dig; rw [Nat.mod_mod]
set_option maxHeartbeats 4000000 in
theorem rdigits_ok (u : Nat) (hu : u < 18446744073709551616) (w : World) : Calls Tryd.prog 24 #[.int .u64 (u : Int)] w fun e w' => e = .returned (.string (strB (digs u))) ∧ w' = w := by
  have h20 := digs_20 hu
  go_enter Tryd.func24, Tryd.ntmps24
  go_wp2_with fail
  go_loopw [0, 3] (fun nv sv wr => ∃ (m : Nat) (l : List UInt8), nv = .int .u64 (m : Int) ∧ sv = .string (strB l) ∧ m ≤ u ∧ Hid (digs u = digs m ++ l) ∧ wr = w) (fun nv _ _ => (intOf nv).toNat)
  case atStart => exact ⟨u, [], rfl, rfl, Nat.le_refl _, by show _ = _; rw [List.append_nil], rfl⟩
  case round =>
    obtain ⟨m, l, rfl, rfl, hm, HD, rfl⟩ := hrel
    have hl : l.length + 1 ≤ 20 := by
      have h1 := congrArg List.length HD.out
      have h2 := digs_len_pos m
      rw [List.length_append] at h1
      omega
    by_cases h9 : 9 < m
    · have d9 : (9 : Int) < (m : Int) := by omega
      have hs1 := digit_sl (m % 10) (by omega) .u64 ((m : Int) % 10) ((m : Int) % 10 + 1) (by omega) rfl
      rw [dig_mod] at hs1
      have ha1 := sum_B [dig m] l (by simp only [List.length_singleton]; omega)
      have HE : Hid (digs u = digs (m / 10) ++ ([dig m] ++ l)) := by
        show _ = _
        rw [HD.out, digs_ge (show ¬ m < 10 by omega), List.append_assoc]
      go_wp2_with fail
      exact ⟨⟨m / 10, [dig m] ++ l, by go_num, rfl, by omega, HE, trivial⟩, by simp [intOf]; omega⟩
    · have d9 : ¬ (9 : Int) < (m : Int) := by omega
      have d9b : decide ((9 : Int) < (m : Int)) = false := by simp; omega
      have d9c : m ≤ 9 := by omega
      have hs1 := digit_sl m (by omega) .u64 (m : Int) ((m : Int) + 1) rfl rfl
      have ha1 := sum_B [dig m] l (by simp only [List.length_singleton]; omega)
      have HE : Hid (digs u = [dig m] ++ l) := by show _ = _; rw [HD.out, digs_lt (show m < 10 by omega)]
      go_wp2_with fail
      go_ret
      exact ⟨by rw [HE.out]; rfl, rfl⟩
theorem rsigned_ok (k : Int) (h0 : -9223372036854775808 ≤ k) (h1 : k ≤ 9223372036854775807) (w : World) : Calls Tryd.prog 25 #[.int .i64 k] w fun e w' => e = .returned (.string (strB (sgns k))) ∧ w' = w := by
  by_cases h : k < 0
  · obtain ⟨u, hu⟩ : ∃ u : Nat, k = -((u : Int) + 1) := ⟨k.natAbs - 1, by omega⟩
    have HE : Hid (sgns k = 45 :: digs (u + 1)) := by show _ = _; unfold sgns; rw [if_pos h, show k.natAbs = u + 1 by omega]
    have p := rdigits_ok (u + 1) (by omega)
    rw [show ((u + 1 : Nat) : Int) = (u : Int) + 1 by omega] at p
    have hl : (digs (u + 1)).length ≤ 20 := digs_20 (by omega)
    have ha : ∀ w, (Op.stringOp .add { data := #[45] } (strB (digs (u + 1)))).run Tryd.prog w = .ok (.string (strB ([45] ++ digs (u + 1)))) w := sum_B [45] (digs (u + 1)) (by simp only [List.length_singleton]; omega)
    subst hu
    have d0 : -((u : Int) + 1) < 0 := by omega
    have d1 : -((u : Int) + 1) + 1 = -(u : Int) := by omega
    go_enter Tryd.func25, Tryd.ntmps25
    go_wp2_with fail
    refine (p w).mono ?_
    rintro e w1 ⟨rfl, rfl⟩
    go_wp2_with fail
    go_ret
    exact ⟨by rw [HE.out]; rfl, rfl⟩
  · obtain ⟨u, rfl⟩ : ∃ u : Nat, k = (u : Int) := ⟨k.toNat, by omega⟩
    have HE : Hid (sgns (u : Int) = digs u) := by show _ = _; unfold sgns; rw [if_neg h]; simp
    have p := rdigits_ok u (by omega)
    have d0 : ¬ (u : Int) < 0 := by omega
    clear h h0
    go_enter Tryd.func25, Tryd.ntmps25
    go_wp2_with fail
    refine (p w).mono ?_
    rintro e w1 ⟨rfl, rfl⟩
    go_wp2_with fail
    go_ret
    exact ⟨by rw [HE.out]; rfl, rfl⟩

end Go.Proofs.YtiepdfngjfhadaaDoor
