/-
  The document's records in lines: what its Digits, Signed, Quoted, Line, Text, Check and Failed answer.
  Each theorem says its own conditions.
-/
import Derived.Test.YtehmcncclpimjaaDoorAuB
import Derived.Test.YtehmcncclpimjaaDoorAuC
namespace Go.Proofs.YtehmcncclpimjaaDoor
set_option maxRecDepth 10000
open Go.RowKit Go.Sort
set_option linter.unusedVariables false
set_option linter.unusedSimpArgs false

theorem strB_append (a b : List UInt8) : strB a ++ strB b = strB (a ++ b) := ByteArray.mk_append_mk _ _
theorem sum_B (a b : List UInt8) (h : a.length + b.length ≤ 9223372036854775807) (w : World) : (Op.stringOp .add (strB a) (strB b)).run Tryd.prog w = .ok (.string (strB (a ++ b))) w := by
  rw [run_string_add_sum w _ _ (by rw [strB_size, strB_size]; omega), strB_append]
def digS : ByteArray := { data := #[48, 49, 50, 51, 52, 53, 54, 55, 56, 57] }
theorem dig_cut : ∀ n : Fin 10, digS.extract n.val (n.val + 1) = strB [dig n.val] := by decide
theorem hex_cut : ∀ n : Fin 16, hexS.extract n.val (n.val + 1) = strB [hex n.val] := by decide
theorem digit_sl (k : Nat) (h : k < 10) (q : IntKind) (i j : Int) (hi : i = (k : Int)) (hj : j = (k : Int) + 1) (W : World) : (Instr.slice 9 (.string { data := #[48, 49, 50, 51, 52, 53, 54, 55, 56, 57] }) (some (.int q i)) (some (.int q j)) none).run Tryd.prog W = .ok (.string (strB [dig k])) W := by
  subst hi hj
  show (Instr.slice 9 (.string digS) _ _ none).run Tryd.prog W = _
  have hs : digS.size = 10 := rfl
  rw [run_slice_string W 9 digS q q (k : Int) ((k : Int) + 1) Tryd.underlying9 (by omega) (by omega) (by rw [hs]; omega), show ((k : Int)).toNat = k by omega, show ((k : Int) + 1).toNat = k + 1 by omega, dig_cut ⟨k, h⟩]
theorem hex_sl (k : Nat) (h : k < 16) (q : IntKind) (i j : Int) (hi : i = (k : Int)) (hj : j = (k : Int) + 1) (W : World) : (Instr.slice 9 (.string { data := #[48, 49, 50, 51, 52, 53, 54, 55, 56, 57, 97, 98, 99, 100, 101, 102] }) (some (.int q i)) (some (.int q j)) none).run Tryd.prog W = .ok (.string (strB [hex k])) W := by
  subst hi hj
  show (Instr.slice 9 (.string hexS) _ _ none).run Tryd.prog W = _
  have hs : hexS.size = 16 := rfl
  rw [run_slice_string W 9 hexS q q (k : Int) ((k : Int) + 1) Tryd.underlying9 (by omega) (by omega) (by rw [hs]; omega), show ((k : Int)).toNat = k by omega, show ((k : Int) + 1).toNat = k + 1 by omega, hex_cut ⟨k, h⟩]
theorem dig_mod (n : Nat) : dig (n % 10) = dig n := by unfold dig; rw [Nat.mod_mod]

set_option maxHeartbeats 4000000 in
theorem rdigits_ok (u : Nat) (hu : u < 18446744073709551616) (w : World) : Calls Tryd.prog 35 #[.int .u64 (u : Int)] w fun e w' => e = .returned (.string (strB (digs u))) ∧ w' = w := by
  have h20 := digs_20 hu
  go_enter Tryd.func35, Tryd.ntmps35
  go_wp2_with fail
  go_loopw [0, 3] (fun nv sv wr => ∃ (m : Nat) (l : List UInt8), nv = .int .u64 (m : Int) ∧ sv = .string (strB l) ∧ m ≤ u ∧ Hid (digs u = digs m ++ l) ∧ wr = w) (fun nv _ _ => (intOf nv).toNat)
  case atStart => exact ⟨u, [], rfl, rfl, Nat.le_refl _, by show _ = _; rw [List.append_nil], rfl⟩
  case round =>
    obtain ⟨m, l, rfl, rfl, hm, HD, rfl⟩ := hrel
    have hl : l.length + 1 ≤ 20 := by
      have h1 := congrArg List.length HD.out
      have h2 := digs_len_pos m
      rw [List.length_append] at h1
      omega
    by_cases h9 : 9 < m
    · have d9 : (9 : Int) < (m : Int) := by omega
      have hs1 := digit_sl (m % 10) (by omega) .u64 ((m : Int) % 10) ((m : Int) % 10 + 1) (by omega) rfl
      rw [dig_mod] at hs1
      have ha1 := sum_B [dig m] l (by simp only [List.length_singleton]; omega)
      have HE : Hid (digs u = digs (m / 10) ++ ([dig m] ++ l)) := by
        show _ = _
        rw [HD.out, digs_ge (show ¬ m < 10 by omega), List.append_assoc]
      go_wp2_with fail
      exact ⟨⟨m / 10, [dig m] ++ l, by go_num, rfl, by omega, HE, trivial⟩, by simp [intOf]; omega⟩
    · have d9 : ¬ (9 : Int) < (m : Int) := by omega
      have d9b : decide ((9 : Int) < (m : Int)) = false := by simp; omega
      have d9c : m ≤ 9 := by omega
      have hs1 := digit_sl m (by omega) .u64 (m : Int) ((m : Int) + 1) rfl rfl
      have ha1 := sum_B [dig m] l (by simp only [List.length_singleton]; omega)
      have HE : Hid (digs u = [dig m] ++ l) := by show _ = _; rw [HD.out, digs_lt (show m < 10 by omega)]
      go_wp2_with fail
      go_ret
      exact ⟨by rw [HE.out]; rfl, rfl⟩

theorem rsigned_ok (k : Int) (h0 : -9223372036854775808 ≤ k) (h1 : k ≤ 9223372036854775807) (w : World) : Calls Tryd.prog 36 #[.int .i64 k] w fun e w' => e = .returned (.string (strB (sgns k))) ∧ w' = w := by
  by_cases h : k < 0
  · obtain ⟨u, hu⟩ : ∃ u : Nat, k = -((u : Int) + 1) := ⟨k.natAbs - 1, by omega⟩
    have HE : Hid (sgns k = 45 :: digs (u + 1)) := by show _ = _; unfold sgns; rw [if_pos h, show k.natAbs = u + 1 by omega]
    have p := rdigits_ok (u + 1) (by omega)
    rw [show ((u + 1 : Nat) : Int) = (u : Int) + 1 by omega] at p
    have hl : (digs (u + 1)).length ≤ 20 := digs_20 (by omega)
    have ha : ∀ w, (Op.stringOp .add { data := #[45] } (strB (digs (u + 1)))).run Tryd.prog w = .ok (.string (strB ([45] ++ digs (u + 1)))) w := sum_B [45] (digs (u + 1)) (by simp only [List.length_singleton]; omega)
    subst hu
    have d0 : -((u : Int) + 1) < 0 := by omega
    have d1 : -((u : Int) + 1) + 1 = -(u : Int) := by omega
    go_enter Tryd.func36, Tryd.ntmps36
    go_wp2_with fail
    refine (p w).mono ?_
    rintro e w1 ⟨rfl, rfl⟩
    go_wp2_with fail
    go_ret
    exact ⟨by rw [HE.out]; rfl, rfl⟩
  · obtain ⟨u, rfl⟩ : ∃ u : Nat, k = (u : Int) := ⟨k.toNat, by omega⟩
    have HE : Hid (sgns (u : Int) = digs u) := by show _ = _; unfold sgns; rw [if_neg h]; simp
    have p := rdigits_ok u (by omega)
    have d0 : ¬ (u : Int) < 0 := by omega
    clear h h0
    go_enter Tryd.func36, Tryd.ntmps36
    go_wp2_with fail
    refine (p w).mono ?_
    rintro e w1 ⟨rfl, rfl⟩
    go_wp2_with fail
    go_ret
    exact ⟨by rw [HE.out]; rfl, rfl⟩

theorem str_sl {c : ByteArray} {j : Nat} {x : UInt8} (hx : (bL c)[j]? = some x) (W : World) : (Instr.slice 9 (.string c) (some (.int .i64 (j : Int))) (some (.int .i64 ((j : Int) + 1))) none).run Tryd.prog W = .ok (.string (strB [x])) W := by
  obtain ⟨g1, _⟩ := bL_get hx
  rw [run_slice_string W 9 c .i64 .i64 (j : Int) ((j : Int) + 1) Tryd.underlying9 (by omega) (by omega) (by omega), show ((j : Int)).toNat = j by omega, show ((j : Int) + 1).toNat = j + 1 by omega]
  have e : c.extract j (j + 1) = strB [x] := by
    apply bL_inj
    show (c.extract j (j + 1)).data.toList = [x]
    rw [Lib.extract_data, Nat.add_sub_cancel_left]
    have hd : (bL c).drop j = x :: (bL c).drop (j + 1) := by
      obtain ⟨h1, h2⟩ := List.getElem?_eq_some_iff.1 hx
      rw [List.drop_eq_getElem_cons h1, h2]
    show List.take 1 (List.drop j (bL c)) = [x]
    rw [hd]
    rfl
  rw [e]
set_option maxHeartbeats 4000000 in
theorem rquoted_ok (c : ByteArray) (hc : c.size ≤ 140737488351232) (w : World) : Calls Tryd.prog 37 #[.string c] w fun e w' => e = .returned (.string (strB (quo (bL c)))) ∧ Below w.heap.size w w' := by
  have hs := bL_len c
  have HE : Hid ((bL c).take c.size = bL c) := by show _ = _; rw [← hs, List.take_length]
  have HL : ∀ j, (quo ((bL c).take j)).length ≤ 422212465053696 := fun j => by
    have h1 := quo_len ((bL c).take j)
    have h2 := List.length_take_le' j (bL c)
    omega
  have hq : ∀ x : UInt8, Hid (plainQ x = (decide (32 ≤ x.toNat) && decide (x.toNat ≤ 126) && decide (x.toNat ≠ 34) && decide (x.toNat ≠ 37))) := plainQ_nat
  obtain ⟨n, hn⟩ : ∃ n, Hid (c.size = n) := ⟨_, rfl⟩
  rw [hn.out] at hc hs HE
  go_enter Tryd.func37, Tryd.ntmps37
  go_wp2_with fail
  go_loopw [3, 5] (fun sv iv wr => ∃ j : Nat, j ≤ n ∧ iv = .int .i64 j ∧ sv = .string (strB (quo ((bL c).take j))) ∧ Below w.heap.size w wr) (fun _ iv _ => n - (intOf iv).toNat)
  case atStart => exact ⟨0, by omega, rfl, rfl, Below.refl _ _⟩
  case round =>
    obtain ⟨j, hj, rfl, rfl, hB⟩ := hrel
    rename World => wr
    have hns : (c.size : Int) = (n : Int) := by rw [hn.out]
    by_cases hjn : j < n
    · have j0 : (j : Int) < (n : Int) := by omega
      have j1 : (0 : Int) ≤ (j : Int) := by omega
      obtain ⟨x, hx⟩ : ∃ x, (bL c)[j]? = some x := ⟨_, List.getElem?_eq_getElem (by rw [hs]; exact hjn)⟩
      have HX : Hid (quo ((bL c).take (j + 1)) = quo ((bL c).take j) ++ quo1 x) := quo_take hx
      have hix := str_ix hx
      have hsl := str_sl hx
      have hlj := HL j
      have hx8 := x.toNat_lt
      generalize hQ : quo ((bL c).take j) = Q at HX hlj ⊢
      have ha0 := sum_B Q [x] (by simp only [List.length_singleton]; omega)
      have hs1 := hex_sl (x.toNat / 16) (by omega) .i64 ((x.toNat : Int) / 16) ((x.toNat : Int) / 16 + 1) (by omega) rfl
      have hs2 := hex_sl (x.toNat % 16) (by omega) .i64 ((x.toNat : Int) % 16) ((x.toNat : Int) % 16 + 1) (by omega) rfl
      have ha1 : ∀ w, (Op.stringOp .add { data := #[37] } (strB [hex (x.toNat / 16)])).run Tryd.prog w = .ok (.string (strB [37, hex (x.toNat / 16)])) w := sum_B [37] [hex (x.toNat / 16)] (by simp)
      have ha2 : ∀ w, (Op.stringOp .add (strB [37, hex (x.toNat / 16)]) (strB [hex (x.toNat % 16)])).run Tryd.prog w = .ok (.string (strB [37, hex (x.toNat / 16), hex (x.toNat % 16)])) w := sum_B [37, hex (x.toNat / 16)] [hex (x.toNat % 16)] (by simp)
      have ha3 := sum_B Q [37, hex (x.toNat / 16), hex (x.toNat % 16)] (by simp only [List.length_cons, List.length_nil]; omega)
      have hqx := hq x
      clear hQ hq HL hx
      cases hp : plainQ x with
      | true =>
        have hq1 : quo1 x = [x] := by unfold quo1; rw [if_pos hp]
        rw [hq1] at HX
        rw [hqx.out] at hp
        simp only [Bool.and_eq_true, decide_eq_true_eq] at hp
        obtain ⟨⟨⟨p1, p2⟩, p3⟩, p4⟩ := hp
        have d1 : ¬ (x.toNat : Int) < 32 := by omega
        have d2 : ¬ (126 : Int) < (x.toNat : Int) := by omega
        have d3 : ((x.toNat : Int) == 34) = false := by simp; omega
        have d4 : ((x.toNat : Int) == 37) = false := by simp; omega
        clear hq1 hqx hs1 hs2 ha1 ha2 ha3 p1 p2 p3 p4
        go_wp2_with fail
        exact ⟨⟨j + 1, by omega, by go_num, by rw [HX.out], hB⟩, by simp [intOf]; omega⟩
      | false =>
        have hq1 : quo1 x = [37, hex (x.toNat / 16), hex (x.toNat % 16)] := by unfold quo1; rw [if_neg (by rw [hp]; simp)]
        rw [hq1] at HX
        have hc0 : x.toNat < 32 ∨ 126 < x.toNat ∨ x.toNat = 34 ∨ x.toNat = 37 := by
          rw [hqx.out] at hp
          by_cases h1 : 32 ≤ x.toNat <;> by_cases h2 : x.toNat ≤ 126 <;> by_cases h3 : x.toNat = 34 <;> by_cases h4 : x.toNat = 37 <;> simp [h1, h2, h3, h4] at hp <;> omega
        clear hq1 hqx ha0 hsl hp
        rcases hc0 with hc0 | hc0 | hc0 | hc0
        · have d1 : (x.toNat : Int) < 32 := by omega
          clear hc0
          go_upto_region 8 with fail
          try simp only [Act.put, List.setIfInBounds_toArray, List.set_cons_zero, List.set_cons_succ]
          refine wp_region_quiet_below (by kernel_rfl) (by kernel_rfl) ?_
          repeat (go_big_quiet_step (fail))
          refine wpQuiet_nil ?_
          intro _ hw'
          obtain ⟨⟨dq, osq⟩, hw''⟩ := hw'
          have hb := below_regrown wr dq osq
          subst hw''
          generalize grow (redrawn wr dq) osq = w1 at hb ⊢
          replace hB := hB.trans (hb.mono hB.size)
          clear hb
          go_wp2_with fail
          exact ⟨⟨j + 1, by omega, by go_num, by rw [HX.out], hB⟩, by simp [intOf]; omega⟩
        · have d1 : ¬ (x.toNat : Int) < 32 := by omega
          have d2 : (126 : Int) < (x.toNat : Int) := by omega
          clear hc0
          go_upto_region 8 with fail
          try simp only [Act.put, List.setIfInBounds_toArray, List.set_cons_zero, List.set_cons_succ]
          refine wp_region_quiet_below (by kernel_rfl) (by kernel_rfl) ?_
          repeat (go_big_quiet_step (fail))
          refine wpQuiet_nil ?_
          intro _ hw'
          obtain ⟨⟨dq, osq⟩, hw''⟩ := hw'
          have hb := below_regrown wr dq osq
          subst hw''
          generalize grow (redrawn wr dq) osq = w1 at hb ⊢
          replace hB := hB.trans (hb.mono hB.size)
          clear hb
          go_wp2_with fail
          exact ⟨⟨j + 1, by omega, by go_num, by rw [HX.out], hB⟩, by simp [intOf]; omega⟩
        · have d1 : ¬ (x.toNat : Int) < 32 := by omega
          have d2 : ¬ (126 : Int) < (x.toNat : Int) := by omega
          have d3 : ((x.toNat : Int) == 34) = true := by simp; omega
          clear hc0
          go_upto_region 8 with fail
          try simp only [Act.put, List.setIfInBounds_toArray, List.set_cons_zero, List.set_cons_succ]
          refine wp_region_quiet_below (by kernel_rfl) (by kernel_rfl) ?_
          repeat (go_big_quiet_step (fail))
          refine wpQuiet_nil ?_
          intro _ hw'
          obtain ⟨⟨dq, osq⟩, hw''⟩ := hw'
          have hb := below_regrown wr dq osq
          subst hw''
          generalize grow (redrawn wr dq) osq = w1 at hb ⊢
          replace hB := hB.trans (hb.mono hB.size)
          clear hb
          go_wp2_with fail
          exact ⟨⟨j + 1, by omega, by go_num, by rw [HX.out], hB⟩, by simp [intOf]; omega⟩
        · have d1 : ¬ (x.toNat : Int) < 32 := by omega
          have d2 : ¬ (126 : Int) < (x.toNat : Int) := by omega
          have d3 : ((x.toNat : Int) == 34) = false := by simp; omega
          have d4 : ((x.toNat : Int) == 37) = true := by simp; omega
          clear hc0
          go_upto_region 8 with fail
          try simp only [Act.put, List.setIfInBounds_toArray, List.set_cons_zero, List.set_cons_succ]
          refine wp_region_quiet_below (by kernel_rfl) (by kernel_rfl) ?_
          repeat (go_big_quiet_step (fail))
          refine wpQuiet_nil ?_
          intro _ hw'
          obtain ⟨⟨dq, osq⟩, hw''⟩ := hw'
          have hb := below_regrown wr dq osq
          subst hw''
          generalize grow (redrawn wr dq) osq = w1 at hb ⊢
          replace hB := hB.trans (hb.mono hB.size)
          clear hb
          go_wp2_with fail
          exact ⟨⟨j + 1, by omega, by go_num, by rw [HX.out], hB⟩, by simp [intOf]; omega⟩
    · obtain rfl : j = n := by omega
      rw [HE.out]
      clear HE HL hq
      go_wp2_with fail
      go_ret
      exact ⟨rfl, hB⟩


end Go.Proofs.YtehmcncclpimjaaDoor
