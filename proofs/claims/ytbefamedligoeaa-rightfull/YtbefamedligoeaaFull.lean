/-
  No more than 16 capabilities are held: the law RightFull returns true for every input.
  No condition beyond the form's own.
-/
import Derived.Test.YtbefamedligoeaaRows
import Derived.Test.YtbefamedligoeaaRtO
import Derived.WalkKit
import Derived.ProofKit
import Derived.OpenShut
import Derived.ShutString
import Derived.SizedLaws
import Derived.ChangeOld
import Derived.Below
namespace Go.Proofs.Ytbefamedligoeaa.rightFull
open Go.Sort Go.ChangeShapes Go.WideShapes Go.ChangeAt Go.RowKit
open Go.ChangeMaps (open_string shut_string)
set_option linter.unusedVariables false
set_option maxRecDepth 10000

theorem own : ownKnob Try.prog.godebug = none := by kernel_rfl
theorem length_bytes (s : ByteArray) : s.data.toList.length = s.size := by rw [Array.length_toList]; rfl

set_option maxHeartbeats 8000000 in
theorem walk (n0 : Int) (hw0 : (Lit.int .i64 n0).wf = true) (s0 : Int) (hw1 : (Lit.int .u64 s0).wf = true) (w : World) :
    Calls Try.prog 6 #[.int .i64 n0, .int .u64 s0] w fun e w' => e = .returned (.bool true) ∧ Below w.heap.size w w' := by
  obtain ⟨s, rfl, hs⟩ := u64_nat s0 hw1
  clear hw0 hw1
  go_enter Try.func6, Try.ntmps6
  go_wp2_with fail
  refine (fixed_ok w).mono ?_
  rintro r w1 ⟨rfl, hB⟩
  by_cases h1 : n0 < 0
  · have d1 : n0 < 0 := h1
    go_wp2_with fail
    refine (fixed_ok _).mono ?_
    rintro r w2 ⟨rfl, hb⟩
    replace hB := below_next hB hb
    clear hb
    go_wp2_with fail
    go_ret
    exact ⟨rfl, hB⟩
  by_cases h2 : 30 < n0
  · have d2 : 30 < n0 := h2
    go_wp2_with fail
    refine (fixed_ok _).mono ?_
    rintro r w2 ⟨rfl, hb⟩
    replace hB := below_next hB hb
    clear hb
    go_wp2_with fail
    go_ret
    exact ⟨rfl, hB⟩
  obtain ⟨n, rfl⟩ : ∃ n : Nat, n0 = (n : Int) := ⟨n0.toNat, by omega⟩
  have hn : n ≤ 30 := by omega
  have d1 : ¬ (n : Int) < 0 := by omega
  have d2 : ¬ 30 < (n : Int) := by omega
  have hl0 : Li Ri.vals 0 (some ⟨w1.heap.size, 0, none⟩) [] (w1.alloc (.cells #[] 46)) := .inl rfl
  have hB0 := below_next hB (below_box w1 (.cells #[] 46))
  clear h1 h2
  go_wp2_with (refine box_Ri0 rfl rfl ?_)
  clear d1 d2 hB
  go_loopw [5, 6] (fun tv iv wr => ∃ (i k : Nat) (a : Option Addr) (c : Nat), 1 ≤ i ∧ i ≤ n + 1 ∧ iv = .int .i64 i ∧ tv = .slice a k c ∧ (k + 1 = i ∧ i ≤ 17 ∨ k = 16 ∧ 17 ≤ i) ∧ Li Ri.vals 0 a (fullL s k) wr ∧ Below w.heap.size w wr) (fun _ iv _ => 31 - (intOf iv).toNat)
  case atStart => exact ⟨1, 0, _, 0, by omega, by omega, rfl, rfl, by omega, hl0, hB0⟩
  case round =>
    clear hl0 hB0
    obtain ⟨i, k, a, c, hi, hin, rfl, rfl, hk, hl, hB⟩ := hrel
    rename World => wr
    by_cases hni : i ≤ n
    · have i0 : (i : Int) ≤ (n : Int) := by omega
      have pA := mint_ok i ((s + i % 2) % 18446744073709551616) 1 (fullL s k) a c (by rw [full_len]; omega)
      unfold Minted at pA
      rw [full_mint s k i (by omega), full_len] at pA
      obtain ⟨s', hs'⟩ : ∃ s' : Nat, Hid ((s + i % 2) % 18446744073709551616 = s') := ⟨_, rfl⟩
      have u1 : IntKind.u64.wrap (i : Int) = (i : Int) := by rw [IntKind.wrap_u64]; omega
      have u3 : IntKind.u64.wrap ((s : Int) + (i : Int) % 2) = (s' : Int) := by
        have := hs'.out
        rw [IntKind.wrap_u64]
        omega
      have ml := fun h6 => full_mintL s k i s' (by omega) h6
      rw [hs'.out] at pA
      go_wp2_with fail
      by_cases h16 : 16 ≤ k
      · obtain ⟨rfl, hi17⟩ : k = 16 ∧ 17 ≤ i := by omega
        rw [if_pos h16] at pA
        have i2 : ¬ (i : Int) ≤ 16 := by omega
        have pV := revoke_ok 1 (fullL s 16) a c (by rw [full_len]; decide)
        unfold Revoked at pV
        rw [full_rev s 15, full_len] at pV
        refine (pA wr hl).mono ?_
        rintro r w2 ⟨⟨a2, c2, rfl, _⟩, hb⟩
        replace hl := hl.below hb
        replace hB := below_next hB hb
        clear hb pA u1 u3
        go_wp2_with fail
        refine (pV w2 hl).mono ?_
        rintro r w3 ⟨⟨a3, c3, rfl, _⟩, hb⟩
        replace hl := hl.below hb
        replace hB := below_next hB hb
        clear hb pV i2
        go_wp2_with fail
        exact ⟨⟨i + 1, 16, a, c, by omega, by omega, by go_num, rfl, by omega, hl, hB⟩, by simp [intOf]; omega⟩
      · have hk1 : k + 1 = i := by omega
        have i2 : (i : Int) ≤ 16 := by omega
        rw [if_neg h16, ml (by omega)] at pA
        have ln : (fullL s k ++ [(⟨i, s', 1, false⟩ : Ri)]).length = k + 1 := by rw [List.length_append, full_len]; rfl
        rw [ln] at pA
        by_cases hk0 : k = 0
        · subst hk0
          obtain rfl : i = 1 := by omega
          refine (pA wr hl).mono ?_
          rintro r w2 ⟨⟨a2, c2, rfl, h2⟩, hb⟩
          rw [← hs'.out, full1_eq] at h2
          replace h2 := h2.li.mono (Nat.zero_le _)
          replace hB := below_next hB hb
          have pV := revoke_ok 1 (full1 s) a2 c2 (by simp [full1])
          unfold Revoked at pV
          rw [(full1_rev s).1, (full1_rev s).2, full_len] at pV
          clear hb pA u1 u3 hl ml ln
          go_wp2_with fail
          refine (pV w2 h2).mono ?_
          rintro r w3 ⟨⟨a3, c3, rfl, h3⟩, hb⟩
          replace h3 := h3.li.mono (Nat.zero_le _)
          replace hB := below_next hB hb
          clear hb pV i2
          go_wp2_with fail
          exact ⟨⟨2, 1, a3, c3, by omega, by omega, by go_num, rfl, by omega, h3, hB⟩, by simp [intOf]⟩
        · refine (pA wr hl).mono ?_
          rintro r w2 ⟨⟨a2, c2, rfl, h2⟩, hb⟩
          rw [← hs'.out, ← hk1, full_more s k (by omega)] at h2
          replace h2 := h2.li.mono (Nat.zero_le _)
          replace hB := below_next hB hb
          have pV := revoke_ok 1 (fullL s (k + 1)) a2 c2 (by rw [full_len]; omega)
          unfold Revoked at pV
          rw [full_rev s k, full_len] at pV
          have hk2 : Hid (k + 1 = i ∧ k < 16) := ⟨hk1, by omega⟩
          have hkk : Hid (k + 1 = i ∧ i ≤ 17 ∨ k = 16 ∧ 17 ≤ i) := hk
          clear hb pA u1 u3 hl ml ln hk1 hk hk0 h16
          go_wp2_with fail
          refine (pV w2 h2).mono ?_
          rintro r w3 ⟨⟨a3, c3, rfl, _⟩, hb⟩
          replace h2 := h2.below hb
          replace hB := below_next hB hb
          clear hb pV i2
          go_wp2_with fail
          obtain ⟨hk1, hk6⟩ := hk2.out
          exact ⟨⟨i + 1, k + 1, a2, c2, by omega, by omega, by go_num, rfl, by omega, h2, hB⟩, by simp [intOf]; omega⟩
    · obtain rfl : i = n + 1 := by omega
      have i0 : ¬ ((n + 1 : Nat) : Int) ≤ (n : Int) := by omega
      have pD := drop_ok s (fullL s k) a c (by rw [full_len]; omega)
      unfold MadeRi at pD
      rw [full_drop s hs k, full_len] at pD
      have hmin : (if (16 : Int) < (n : Int) then (16 : Int) else (n : Int)) = (k : Int) := by split <;> omega
      have hmin2 : (if (n : Int) < (16 : Int) then (n : Int) else (16 : Int)) = (k : Int) := by split <;> omega
      have hdiv : Int.tdiv ((k : Int) + 1) 2 = (((k + 1) / 2 : Nat) : Int) := by rw [Int.tdiv_eq_ediv_of_nonneg (by omega)]; omega
      have hk2b : (k + 1) / 2 ≤ 31 := by omega
      generalize (k + 1) / 2 = k2 at pD hdiv hk2b
      have hw2 : wrap64 (k2 : Int) = (k2 : Int) := by unfold wrap64; omega
      have hk31 : k ≤ 31 := by omega
      go_wp2_with fail
      refine (pD wr hl).mono ?_
      rintro r w2 ⟨⟨a2, c2, rfl, _⟩, hb⟩
      replace hB := below_next hB hb
      clear hb pD hk
      go_wp2_with fail
      go_ret
      exact ⟨rfl, hB⟩

set_option maxRecDepth 100000 in
theorem lifted (os : Go.Os) (started : os.Started) (H : Type) (enc : TypeId × Value → H) :
    ReturnsInHanded {} Try.checked os 6 .any (Rows.rightFullSpec.pre6 enc Try.prog Try.f6 Rows.rightFullRow.domain false) (Rows.rightFullSpec.post enc Try.prog Try.f6 false true false false) := by
  refine returnsInHanded_of_change_sized (C := Try.checked) own started (by kernel_rfl) Try.func6
    (ChangeSpec.witness6 (enc := enc) (C := Try.checked) false ⟨#[], #[.int .i64 0, .int .u64 0], []⟩ 8 (by kernel_rfl) (by kernel_rfl) (by kernel_rfl) (by kernel_rfl)) ?_
  intro W base args ds gs before hval0 hW hcnd hsz0 _
  have hval : ∀ (j : Nat) t v, Try.f6.params[j]? = some t → args[j]? = some v → Value.okWide Try.prog W .any base t v := hval0
  have hsz : (DataW.weightsEach Try.prog (Try.f6.params.toList ++ Rows.rightFullSpec.plain.varTypes Try.prog) (ds ++ gs)).all (· ≤ reachBytes) = true := hsz0
  have hW' := hW
  obtain ⟨p, q, hA0, hV, rfl, hfz, hnd⟩ := hW
  have hA : DataW.TrodAll enc Try.prog W 0 (fun _ => true) true Try.f6.params.toList args.toList ds p := hA0
  rw [Try.params6] at hA hval hsz

  obtain ⟨v0, vs0, d0, ds0, p0, q0, hargs, rfl, rfl, h0, r0⟩ := trodAll_cons hA
  obtain ⟨v1, vs1, d1, ds1, p1, q1, rfl, rfl, rfl, h1, r1⟩ := trodAll_cons r0
  obtain ⟨rfl, rfl, rfl⟩ := trodAll_nil r1
  obtain rfl : args = #[v0, v1] := by cases args; simp_all
  obtain ⟨rfl, rfl⟩ := trodVars_none hV
  obtain ⟨a0, rfl, rfl, rfl, w0⟩ := open_int Try.underlying3 (hval 0 3 v0 rfl rfl) h0
  obtain ⟨a1, rfl, rfl, rfl, w1⟩ := open_int Try.underlying23 (hval 1 23 v1 rfl rfl) h1
  have hA2 := hA0
  clear hA0 hval0 hsz0
  simp only [List.append_nil] at hW'
  refine (walk a0 w0 a1 w1 W).mono fun e W' ⟨he, bel⟩ => ?_
  subst he
  exact ⟨_, rfl, _, _, _, [], _, [], hW', trodAll_mk1 (shut_bool Try.underlying4 _), (stays_all laidOut bel (by kernel_rfl) hA2), rfl, bel.frame _, fun h => by cases h⟩

theorem over : Rows.rightFullRow.holds Try.pinned (OpenSpec.ofChange Rows.rightFullSpec) :=
  OpenClaim.holds_of_wide 6 Try.f6 rfl rfl rfl rfl rfl rfl rfl ⟨rfl, rfl, rfl, rfl, rfl⟩ rfl rfl rfl rfl rfl (by kernel_rfl) Try.func6 (by kernel_rfl)
    (of_decide_eq_true (by kernel_rfl)) (by unfold Func.isWrapper; first | (rw [if_pos (by decide +kernel)]; kernel_rfl) | (rw [if_neg (by decide +kernel)]; exact ⟨rfl, rfl⟩))
    (fun os started H enc _ => lifted os started H enc)

end Go.Proofs.Ytbefamedligoeaa.rightFull
namespace Go.Proofs.Ytbefamedligoeaa

theorem rightFull_holds : Rows.RightFullSaid := rightFull.over
#print axioms rightFull_holds

end Go.Proofs.Ytbefamedligoeaa
