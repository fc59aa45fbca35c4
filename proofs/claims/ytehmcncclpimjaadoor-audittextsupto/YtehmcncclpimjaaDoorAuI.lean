/-
  The document's words and numbers: what its word, number, code and value answer.
  Each theorem says its own conditions.
-/
import Derived.Test.YtehmcncclpimjaaDoorAuD
import Derived.Test.YtehmcncclpimjaaDoorAuH
namespace Go.Proofs.YtehmcncclpimjaaDoor
set_option maxRecDepth 10000
open Go.RowKit Go.Sort
set_option linter.unusedVariables false
set_option linter.unusedSimpArgs false

def wordV (s : ByteArray) : Value := .tuple #[.string (strB (wordL (bL s)).1), .string (strB (wordL (bL s)).2.1), .bool (wordL (bL s)).2.2]
set_option maxHeartbeats 4000000 in
theorem word_ok (s : ByteArray) (hs : s.size ≤ 9223372036854775806) (w : World) : Calls Tryd.prog 28 #[.string s] w fun e w' => e = .returned (wordV s) ∧ Below w.heap.size w w' := by
  have hl := bL_len s
  have HE : Hid ((bL s).take s.size = bL s) := by show _ = _; rw [← hl, List.take_length]
  obtain ⟨n, hn⟩ : ∃ n, Hid (s.size = n) := ⟨_, rfl⟩
  rw [hn.out] at hs hl HE
  go_enter Tryd.func28, Tryd.ntmps28
  go_wp2_with fail
  go_loopw [5] (fun iv wr => ∃ j : Nat, j ≤ n ∧ iv = .int .i64 j ∧ Hid ((32 : UInt8) ∉ (bL s).take j) ∧ wr = w) (fun iv _ => n - (intOf iv).toNat)
  case atStart => exact ⟨0, by omega, rfl, by simp [Hid], rfl⟩
  case round =>
    obtain ⟨j, hj, rfl, HN, rfl⟩ := hrel
    rename World => wr
    have hns : (s.size : Int) = (n : Int) := by rw [hn.out]
    by_cases hjn : j < n
    · have j0 : (j : Int) < (n : Int) := by omega
      have j1 : (0 : Int) ≤ (j : Int) := by omega
      obtain ⟨x, hx⟩ : ∃ x, (bL s)[j]? = some x := ⟨_, List.getElem?_eq_getElem (by rw [hl]; exact hjn)⟩
      have hix := str_ix hx
      by_cases h32 : x = 32
      · have HV : Hid (wordV s = .tuple #[.string (strB ((bL s).take j)), .string (strB ((bL s).drop (j + 1))), .bool true]) := by
          show _ = _
          unfold wordV
          rw [wordL_hit HN.out (by rw [hx, h32])]
        have s1 := sl_take s j (by rw [hn.out]; omega) .i64
        have s2 := sl_drop s (j + 1) (by rw [hn.out]; omega) .i64 ((j : Int) + 1) (by omega)
        have d1 : ((x.toNat : Int) == 32) = true := by rw [h32]; rfl
        have hw1 : IntKind.i64.wrap ((j : Int) + 1) = (j : Int) + 1 := by rw [IntKind.wrap_i64]; omega
        clear h32 hx HN
        generalize (bL s).take j = A at HV s1
        generalize (bL s).drop (j + 1) = R at HV s2
        go_upto_region 5 with fail
        try simp only [Act.put, List.setIfInBounds_toArray, List.set_cons_zero, List.set_cons_succ]
        refine wp_region_quiet_below (by kernel_rfl) (by kernel_rfl) ?_
        repeat (go_big_quiet_step (fail))
        refine wpQuiet_nil ?_
        intro _ hw'
        obtain ⟨⟨dq, osq⟩, hw''⟩ := hw'
        have hb := below_regrown wr dq osq
        subst hw''
        generalize grow (redrawn wr dq) osq = w1 at hb ⊢
        clear s1 s2
        go_wp2_with fail
        go_ret3
        exact ⟨congrArg Ending.returned HV.out.symm, hb⟩
      · have d1 : ((x.toNat : Int) == 32) = false := by
          have h : ¬ x.toNat = 32 := fun h => h32 (UInt8.toNat_inj.1 h)
          simp; omega
        have HN2 : Hid ((32 : UInt8) ∉ (bL s).take (j + 1)) := no_snoc HN.out hx h32
        clear h32 hx HN
        go_wp2_with fail
        exact ⟨⟨j + 1, by omega, by go_num, HN2, trivial⟩, by simp [intOf]; omega⟩
    · obtain rfl : j = n := by omega
      have HV : Hid (wordV s = .tuple #[.string (strB []), .string (strB []), .bool false]) := by
        show _ = _
        have h := HN.out
        rw [HE.out] at h
        unfold wordV
        rw [wordL_none h]
      clear HN HE
      go_wp2_with fail
      go_ret3
      exact ⟨congrArg Ending.returned HV.out.symm, Below.refl _ _⟩

def numV (s : ByteArray) : Nat × Bool := if (1 ≤ (bL s).length ∧ (bL s).length ≤ 20) ∧ ∀ b ∈ bL s, isDig b = true then (numL (bL s) % 18446744073709551616, decide (digs (numL (bL s) % 18446744073709551616) = bL s)) else (0, false)
theorem numV_digs {s : ByteArray} {m : Nat} (hm : m < 18446744073709551616) (h : bL s = digs m) : numV s = (m, true) := by
  unfold numV
  rw [h, if_pos ⟨⟨digs_len_pos m, digs_20 hm⟩, digs_is m⟩, numL_digs, Nat.mod_eq_of_lt hm]
  simp
theorem numV_lt (s : ByteArray) : (numV s).1 < 18446744073709551616 := by
  unfold numV
  split
  · exact Nat.mod_lt _ (by decide)
  · decide
set_option maxHeartbeats 4000000 in
theorem number_ok (s : ByteArray) (hs : s.size ≤ 9223372036854775806) (w : World) : Calls Tryd.prog 29 #[.string s] w fun e w' => e = .returned (.tuple #[.int .u64 ((numV s).1 : Int), .bool (numV s).2]) ∧ w' = w := by
  have hl := bL_len s
  have HE : Hid ((bL s).take s.size = bL s) := by show _ = _; rw [← hl, List.take_length]
  have HV0 : ¬ (1 ≤ s.size ∧ s.size ≤ 20) → Hid (numV s = (0, false)) := fun h => by
    show _ = _
    unfold numV
    rw [if_neg (by rw [hl]; exact fun k => h k.1)]
  have HV1 : ∀ j x, (bL s)[j]? = some x → isDig x = false → Hid (numV s = (0, false)) := fun j x hx hd => by
    show _ = _
    unfold numV
    rw [if_neg (fun k => by rw [k.2 x (List.mem_of_getElem? hx)] at hd; cases hd)]
  have HV2 : (1 ≤ s.size ∧ s.size ≤ 20) → (∀ b ∈ bL s, isDig b = true) → Hid (numV s = (numL (bL s) % 18446744073709551616, decide (digs (numL (bL s) % 18446744073709551616) = bL s))) := fun h k => by
    show _ = _
    unfold numV
    rw [if_pos ⟨by rw [hl]; exact h, k⟩]
  obtain ⟨n, hn⟩ : ∃ n, Hid (s.size = n) := ⟨_, rfl⟩
  rw [hn.out] at hs hl HE HV0 HV2
  have hns : (s.size : Int) = (n : Int) := by rw [hn.out]
  by_cases h0 : 1 ≤ n
  · by_cases h20 : n ≤ 20
    · have d0 : ¬ (n : Int) < 1 := by omega
      have d1 : ¬ (20 : Int) < (n : Int) := by omega
      clear HV0
      go_enter Tryd.func29, Tryd.ntmps29
      go_wp2_with fail
      clear d0 d1
      go_loopw [4, 5] (fun nv iv wr => ∃ j m : Nat, j ≤ n ∧ iv = .int .i64 j ∧ nv = .int .u64 (m : Int) ∧ m < 18446744073709551616 ∧ Hid (m = numL ((bL s).take j) % 18446744073709551616 ∧ ∀ b ∈ (bL s).take j, isDig b = true) ∧ wr = w) (fun _ iv _ => n - (intOf iv).toNat)
      case atStart => exact ⟨0, 0, by omega, rfl, rfl, by omega, ⟨rfl, by simp⟩, rfl⟩
      case round =>
        obtain ⟨j, m, hj, rfl, rfl, hm, HM, rfl⟩ := hrel
        rename World => wr
        by_cases hjn : j < n
        · have j0 : (j : Int) < (n : Int) := by omega
          have j1 : (0 : Int) ≤ (j : Int) := by omega
          obtain ⟨x, hx⟩ : ∃ x, (bL s)[j]? = some x := ⟨_, List.getElem?_eq_getElem (by rw [hl]; exact hjn)⟩
          have hix := str_ix hx
          have hx8 := x.toNat_lt
          cases hd : isDig x with
          | true =>
            have hd' := hd
            unfold isDig at hd'
            rw [decide_eq_true_eq] at hd'
            obtain ⟨p1, p2⟩ := hd'
            have d1 : ¬ (x.toNat : Int) < 48 := by omega
            have d2 : ¬ (57 : Int) < (x.toNat : Int) := by omega
            have hw1 : IntKind.u8.wrap ((x.toNat : Int) - 48) = ((x.toNat - 48 : Nat) : Int) := by rw [IntKind.wrap_u8]; omega
            have hw2 : IntKind.u64.wrap (IntKind.u64.wrap (10 * (m : Int)) + ((x.toNat - 48 : Nat) : Int)) = (((10 * m + (x.toNat - 48)) % 18446744073709551616 : Nat) : Int) := by rw [IntKind.wrap_u64, IntKind.wrap_u64]; omega
            have HM2 : Hid ((10 * m + (x.toNat - 48)) % 18446744073709551616 = numL ((bL s).take (j + 1)) % 18446744073709551616 ∧ ∀ b ∈ (bL s).take (j + 1), isDig b = true) := by
              refine ⟨?_, fun b hb => ?_⟩
              · rw [numL_take hx, HM.out.1]
                omega
              · rw [List.take_add_one, hx] at hb
                rcases List.mem_append.1 hb with hb | hb
                · exact HM.out.2 b hb
                · simp at hb; rw [hb]; exact hd
            clear hd hx HM p1 p2 HV1 HV2
            go_wp2_with fail
            exact ⟨⟨j + 1, (10 * m + (x.toNat - 48)) % 18446744073709551616, by omega, by go_num, by go_num, by omega, HM2, trivial⟩, by simp [intOf]; omega⟩
          | false =>
            have HF := HV1 j x hx hd
            have hd' := hd
            unfold isDig at hd'
            rw [decide_eq_false_iff_not] at hd'
            clear hx HM HV1 HV2 hd
            by_cases p1 : x.toNat < 48
            · have d1 : (x.toNat : Int) < 48 := by omega
              clear hd'
              go_wp2_with fail
              go_ret2
              exact ⟨by rw [HF.out]; rfl, rfl⟩
            · have d1 : ¬ (x.toNat : Int) < 48 := by omega
              have d2 : (57 : Int) < (x.toNat : Int) := by omega
              clear hd'
              go_wp2_with fail
              go_ret2
              exact ⟨by rw [HF.out]; rfl, rfl⟩
        · obtain rfl : j = n := by omega
          have hM := HM.out
          rw [HE.out] at hM
          have HF := HV2 ⟨h0, h20⟩ hM.2
          rw [← hM.1] at HF
          have pd := rdigits_ok m hm wr
          have hq := same_L (strB (digs m)) s (decide (digs m = bL s)) rfl
          generalize decide (digs m = bL s) = ok at HF hq
          clear hM HM HV1 HV2 HE
          go_wp2_with fail
          refine pd.mono ?_
          rintro e w1 ⟨rfl, rfl⟩
          go_wp2_with fail
          go_ret2
          exact ⟨by rw [HF.out]; rfl, rfl⟩
    · have HF := HV0 (by omega)
      rw [HF.out]
      have d0 : ¬ (n : Int) < 1 := by omega
      have d1 : (20 : Int) < (n : Int) := by omega
      go_enter Tryd.func29, Tryd.ntmps29
      go_wp2_with fail
      go_ret2
      exact ⟨rfl, rfl⟩
  · have HF := HV0 (by omega)
    rw [HF.out]
    have d0 : (n : Int) < 1 := by omega
    go_enter Tryd.func29, Tryd.ntmps29
    go_wp2_with fail
    go_ret2
    exact ⟨rfl, rfl⟩

set_option maxHeartbeats 4000000 in
theorem value_ok (c : UInt8) (w : World) : Calls Tryd.prog 44 #[.int .u8 (c.toNat : Int)] w fun e w' => e = .returned (.int .i64 (valI c)) ∧ w' = w := by
  go_enter Tryd.func44, Tryd.ntmps44
  go_wp2_with fail
  go_loopw [4] (fun iv wr => ∃ j : Nat, j ≤ 16 ∧ iv = .int .i64 j ∧ Hid (∀ k, k < j → hex k ≠ c) ∧ wr = w) (fun iv _ => 16 - (intOf iv).toNat)
  case atStart => exact ⟨0, by omega, rfl, fun k hk => by omega, rfl⟩
  case round =>
    obtain ⟨j, hj, rfl, HN, rfl⟩ := hrel
    rename World => wr
    by_cases hjn : j < 16
    · have j0 : (j : Int) < 16 := by omega
      have hd := digit_ix j hjn .i64 (j : Int) rfl
      by_cases h : hex j = c
      · have HV : Hid (valI c = (j : Int)) := by show _ = _; rw [← h]; exact valI_hex' j hjn
        have d1 : (((hex j).toNat : Int) == (c.toNat : Int)) = true := by rw [h]; simp
        clear h HN
        go_wp2_with fail
        go_ret
        exact ⟨by rw [HV.out]; rfl, rfl⟩
      · have d1 : (((hex j).toNat : Int) == (c.toNat : Int)) = false := by
          have : ¬ (hex j).toNat = c.toNat := fun k => h (UInt8.toNat_inj.1 k)
          simp; omega
        have HN2 : Hid (∀ k, k < j + 1 → hex k ≠ c) := fun k hk => by
          by_cases hkj : k < j
          · exact HN.out k hkj
          · rw [show k = j by omega]; exact h
        clear h HN
        go_wp2_with fail
        exact ⟨⟨j + 1, by omega, by go_num, HN2, trivial⟩, by simp [intOf]; omega⟩
    · obtain rfl : j = 16 := by omega
      have HV : Hid (valI c = -1) := valI_none HN.out
      clear HN
      go_wp2_with fail
      go_ret
      exact ⟨by rw [HV.out]; rfl, rfl⟩


end Go.Proofs.YtehmcncclpimjaaDoor
