/-
  Who may send has no more than any other member; where all have the same, all may; if there are members, one may: the law RoundMay returns true for every input.
  No condition beyond the form's own.
-/
import Derived.Test.YtchkpgncelbhpaaRows
import Derived.Test.YtchkpgncelbhpaaRdN
import Derived.Test.YtchkpgncelbhpaaRdF
import Derived.WalkKit
import Derived.ProofKit
import Derived.OpenShut
import Derived.ShutString
import Derived.SizedLaws
import Derived.ChangeOld
import Derived.Below
namespace Go.Proofs.Ytchkpgncelbhpaa.roundMay
open Go.Sort Go.ChangeShapes Go.WideShapes Go.ChangeAt Go.RowKit
open Go.ChangeMaps (open_string shut_string)
set_option linter.unusedVariables false
set_option maxRecDepth 10000

theorem own : ownKnob Try.prog.godebug = none := by kernel_rfl
theorem length_bytes (s : ByteArray) : s.data.toList.length = s.size := by rw [Array.length_toList]; rfl

set_option maxHeartbeats 8000000 in
theorem walk (c : Nat → Nat) (kc : ∀ i, c i < 4294967296) (m : Nat → Nat) (w : World) : Calls Try.prog 7 #[.agg (mbc c), .agg (mbc m)] w fun e w' => e = .returned (.bool true) ∧ Below w.heap.size w w' := by
  have pL := cleast_ok c m
  obtain ⟨q, hq⟩ : ∃ q, leastC c m = q := ⟨_, rfl⟩
  have HQ : Hid (leastC c m = q) := hq
  obtain ⟨o, ho⟩ : ∃ o, (!(lst m).isEmpty) = o := ⟨_, rfl⟩
  have HO : Hid ((!(lst m).isEmpty) = o) := ho
  rw [hq, ho] at pL
  clear kc hq ho
  obtain ⟨a0, a1, hB⟩ := two_blk (T0 := 24) (T1 := 25) (C0 := mbc c) (C1 := mbc m) (w := w) rfl
  go_enter Try.func7, Try.ntmps7
  go_upto_region 1 with fail
  generalize (w.alloc (Obj.cells (mbc c) 24)).alloc (Obj.cells (mbc m) 25) = W at a0 a1 hB ⊢
  go_wp2_with (first | refine load_blk rfl 24 _ rfl a0 rfl Try.underlying24 rfl sizeCt ?_ | refine load_blk rfl 25 _ rfl a1 rfl Try.underlying25 rfl sizeMb ?_)
  refine (pL _).mono ?_
  rintro r w1 ⟨rfl, hb⟩
  replace a0 := a0.below hb
  replace a1 := a1.below hb
  replace hB := hB.trans (hb.mono hB.size)
  clear hb pL
  go_wp2_with fail
  go_loopw [7, 8, 9] (fun av lv iv wr => ∃ j : Nat, j ≤ 8 ∧ iv = .int .i64 j ∧ av = .bool (anyTo c m j) ∧ lv = .bool (allTo c m j) ∧ Blk w.heap.size (mbc c) 24 wr ∧ Blk (w.heap.size + 1) (mbc m) 25 wr ∧ Below w.heap.size w wr) (fun _ _ iv _ => 8 - (intOf iv).toNat)
  case atStart => exact ⟨0, by omega, rfl, rfl, rfl, a0, a1, hB⟩
  case round =>
    clear a0 a1 hB
    obtain ⟨j, hj, rfl, rfl, rfl, a0, a1, hB⟩ := hrel
    by_cases hj8 : j < 8
    · have j0 : (j : Int) < 8 := by omega
      have j1 : (0 : Int) ≤ (j : Int) := by omega
      obtain ⟨A, hA⟩ : ∃ A, Hid (anyTo c m j = A) := ⟨_, rfl⟩
      obtain ⟨L, hL⟩ : ∃ L, Hid (allTo c m j = L) := ⟨_, rfl⟩
      rw [hA.out, hL.out]
      by_cases hm : m j = 0
      · have pM := may_ok c m (j : Int)
        rw [may_none c m j hm] at pM
        have HA : Hid (anyTo c m (j + 1) = A) := by
          show anyTo c m (j + 1) = A
          rw [anyTo_next, may_none c m j hm, Bool.or_false]; exact hA.out
        have HL : Hid (allTo c m (j + 1) = L) := by
          show allTo c m (j + 1) = L
          rw [allTo_next, hm]; simp; exact hL.out
        go_wp2_with (first | refine load_blk rfl 24 _ rfl a0 rfl Try.underlying24 rfl sizeCt ?_ | refine load_blk rfl 25 _ rfl a1 rfl Try.underlying25 rfl sizeMb ?_)
        refine (pM _).mono ?_
        rintro r w2 ⟨rfl, hb⟩
        replace a0 := a0.below hb
        replace a1 := a1.below hb
        replace hB := hB.trans (hb.mono hB.size)
        clear hb pM
        have q1 : w2.cell? ⟨w.heap.size + 1, j, none⟩ = some (.int .u32 0) := by have := a1.cell j _ (mbc_get m j hj8); rw [hm] at this; exact this
        clear hm hA hL
        cases A <;> cases L
        all_goals
          go_wp2_with fail
          exact ⟨⟨j + 1, by omega, by go_num, congrArg Value.bool HA.out.symm, congrArg Value.bool HL.out.symm, a0, a1, hB⟩, by simp [intOf]; omega⟩
      · have pM := may_ok c m (j : Int)
        rw [may_some c m j hj8 hm, HQ.out] at pM
        obtain ⟨u, hu⟩ : ∃ u, decide (c j = q) = u := ⟨_, rfl⟩
        rw [hu] at pM
        have HA : Hid (anyTo c m (j + 1) = (A || u)) := by
          show anyTo c m (j + 1) = (A || u)
          rw [anyTo_next, may_some c m j hj8 hm, HQ.out, hu, hA.out]
        have HL : Hid (allTo c m (j + 1) = (L && u)) := by
          show allTo c m (j + 1) = (L && u)
          rw [allTo_next, HQ.out, hu, hL.out]; simp [hm]
        have g0 : ((m j : Int) == 0) = false := by rw [beq_eq_false_iff_ne]; omega
        have g1 : ((m j : Int) != 0) = true := by rw [bne_iff_ne]; omega
        have g2 : ((c j : Int) == (q : Int)) = u := by rw [← hu, Bool.eq_iff_iff, beq_iff_eq, decide_eq_true_iff]; omega
        have g3 : ¬ (c j : Int) < (q : Int) := by have := leastC_le c m j ((mem_lst m j).2 ⟨hj8, hm⟩); rw [HQ.out] at this; omega
        go_wp2_with (first | refine load_blk rfl 24 _ rfl a0 rfl Try.underlying24 rfl sizeCt ?_ | refine load_blk rfl 25 _ rfl a1 rfl Try.underlying25 rfl sizeMb ?_)
        refine (pM _).mono ?_
        rintro r w2 ⟨rfl, hb⟩
        replace a0 := a0.below hb
        replace a1 := a1.below hb
        replace hB := hB.trans (hb.mono hB.size)
        clear hb pM
        have q0 := a0.cell j _ (mbc_get c j hj8)
        have q1 := a1.cell j _ (mbc_get m j hj8)
        clear hm hA hL hu
        cases A <;> cases L <;> cases u
        all_goals
          go_wp2_with fail
          exact ⟨⟨j + 1, by omega, by go_num, congrArg Value.bool HA.out.symm, congrArg Value.bool HL.out.symm, a0, a1, hB⟩, by simp [intOf]; omega⟩
    · obtain rfl : j = 8 := by omega
      have hA : Hid (anyTo c m 8 = anyTo c m 8) := rfl
      rw [hA.out, any_ok, HO.out]
      obtain ⟨L, hL⟩ : ∃ L, allTo c m 8 = L := ⟨_, rfl⟩
      rw [hL]
      have HL : Hid (allTo c m 8 = L) := hL
      rw [show ((8 : Nat) : Int) = 8 from rfl]
      clear hA hL HQ
      go_wp2_with fail
      go_loopw [11] (fun iv wx => ∃ i : Nat, i ≤ 8 ∧ iv = .int .i64 i ∧ Blk w.heap.size (mbc c) 24 wx ∧ Blk (w.heap.size + 1) (mbc m) 25 wx ∧ Below w.heap.size w wx) (fun iv _ => 8 - (intOf iv).toNat)
      case atStart => exact ⟨0, by omega, rfl, a0, a1, hB⟩
      case round =>
        clear a0 a1 hB
        obtain ⟨i, hi, rfl, a0, a1, hB⟩ := hrel
        rename World => ws
        cases L with
        | false =>
          clear HL
          by_cases hi8 : i < 8
          · have i0 : (i : Int) < 8 := by omega
            go_wp2_with fail
            refine (fixed_ok _).mono ?_
            rintro r w4 ⟨rfl, hb⟩
            replace hB := hB.trans (hb.mono hB.size)
            clear hb a0 a1
            go_wp2_with fail
            go_ret
            exact ⟨rfl, hB⟩
          · have i0 : ¬ (i : Int) < 8 := by omega
            go_wp2_with fail
            refine (fixed_ok _).mono ?_
            rintro r w4 ⟨rfl, hb⟩
            replace hB := hB.trans (hb.mono hB.size)
            clear hb a0 a1
            go_wp2_with fail
            go_ret
            exact ⟨rfl, hB⟩
        | true =>
          by_cases hi8 : i < 8
          · have i0 : (i : Int) < 8 := by omega
            have i1 : (0 : Int) ≤ (i : Int) := by omega
            have q1 := a1.cell i _ (mbc_get m i hi8)
            by_cases hm : m i = 0
            · rw [hm] at q1
              clear hm
              go_wp2_with fail
              exact ⟨⟨i + 1, by omega, by go_num, a0, a1, hB⟩, by simp [intOf]; omega⟩
            · have pM := may_ok c m (i : Int)
              rw [all_may c m HL.out i hi8 hm] at pM
              have g1 : ((m i : Int) != 0) = true := by rw [bne_iff_ne]; omega
              clear hm
              go_wp2_with (first | refine load_want rfl 24 _ rfl a0 rfl Try.underlying24 rfl sizeCt ?_ | refine load_want rfl 25 _ rfl a1 rfl Try.underlying25 rfl sizeMb ?_)
              refine (pM _).mono ?_
              rintro r w3 ⟨rfl, hb⟩
              replace a0 := a0.below hb
              replace a1 := a1.below hb
              replace hB := hB.trans (hb.mono hB.size)
              clear hb pM q1
              go_wp2_with fail
              exact ⟨⟨i + 1, by omega, by go_num, a0, a1, hB⟩, by simp [intOf]; omega⟩
          · have i0 : ¬ (i : Int) < 8 := by omega
            clear HL
            go_wp2_with fail
            refine (fixed_ok _).mono ?_
            rintro r w4 ⟨rfl, hb⟩
            replace hB := hB.trans (hb.mono hB.size)
            clear hb a0 a1
            go_wp2_with fail
            go_ret
            exact ⟨rfl, hB⟩

set_option maxRecDepth 100000 in
theorem lifted (os : Os) (started : os.Started) (H : Type) (enc : TypeId × Value → H) :
    ReturnsInHanded {} Try.checked os 7 .any (Rows.roundMaySpec.pre6 enc Try.prog Try.f7 Rows.roundMayRow.domain false) (Rows.roundMaySpec.post enc Try.prog Try.f7 false true false false) := by
  refine returnsInHanded_of_change_sized (C := Try.checked) own started (by kernel_rfl) Try.func7
    (ChangeSpec.witness6 (enc := enc) (C := Try.checked) false ⟨#[], #[.agg (mbc noMb), .agg (mbc noMb)], []⟩ 8 (by kernel_rfl) (by kernel_rfl) (by kernel_rfl) (by kernel_rfl)) ?_
  intro W base args ds gs before hval0 hW hcnd hsz0 _
  have hval : ∀ (j : Nat) t v, Try.f7.params[j]? = some t → args[j]? = some v → Value.okWide Try.prog W .any base t v := hval0
  have hsz : (DataW.weightsEach Try.prog (Try.f7.params.toList ++ Rows.roundMaySpec.plain.varTypes Try.prog) (ds ++ gs)).all (· ≤ reachBytes) = true := hsz0
  have hW' := hW
  obtain ⟨p, q, hA0, hV, rfl, hfz, hnd⟩ := hW
  have hA : DataW.TrodAll enc Try.prog W 0 (fun _ => true) true Try.f7.params.toList args.toList ds p := hA0
  rw [Try.params7] at hA hval hsz

  obtain ⟨v0, vs0, d0, ds0, p0, q0, hargs, rfl, rfl, h0, r0⟩ := trodAll_cons hA
  obtain ⟨v1, vs1, d1, ds1, p1, q1, rfl, rfl, rfl, h1, r1⟩ := trodAll_cons r0
  obtain ⟨rfl, rfl, rfl⟩ := trodAll_nil r1
  obtain rfl : args = #[v0, v1] := by cases args; simp_all
  obtain ⟨rfl, rfl⟩ := trodVars_none hV
  obtain ⟨c0, rfl, kc0⟩ := open_ct (by obtain ⟨cs, h1, _⟩ := (by simpa only [Value.okWide, Try.underlying24] using hval 0 24 v0 rfl rfl : ∃ cs, v0 = .agg cs ∧ _); exact ⟨cs, h1⟩) h0
  obtain ⟨m1, rfl⟩ := open_mb (by obtain ⟨cs, h1, _⟩ := (by simpa only [Value.okWide, Try.underlying25] using hval 1 25 v1 rfl rfl : ∃ cs, v1 = .agg cs ∧ _); exact ⟨cs, h1⟩) h1
  have hA2 := hA0
  clear hA0 hval0 hsz0
  simp only [List.append_nil] at hW'
  refine (walk c0 kc0 m1 W).mono fun e W' ⟨he, bel⟩ => ?_
  subst he
  exact ⟨_, rfl, _, _, _, [], _, [], hW', trodAll_mk1 (shut_bool Try.underlying4 _), (stays_all laidOut bel (by kernel_rfl) hA2), rfl, bel.frame _, fun h => by cases h⟩

theorem over : Rows.roundMayRow.holds Try.pinned (OpenSpec.ofChange Rows.roundMaySpec) :=
  OpenClaim.holds_of_wide 7 Try.f7 rfl rfl rfl rfl rfl rfl rfl ⟨rfl, rfl, rfl, rfl, rfl⟩ rfl rfl rfl rfl rfl (by kernel_rfl) Try.func7 (by kernel_rfl)
    (of_decide_eq_true (by kernel_rfl)) (by unfold Func.isWrapper; first | (rw [if_pos (by decide +kernel)]; kernel_rfl) | (rw [if_neg (by decide +kernel)]; exact ⟨rfl, rfl⟩))
    (fun os started H enc _ => lifted os started H enc)

end Go.Proofs.Ytchkpgncelbhpaa.roundMay
namespace Go.Proofs.Ytchkpgncelbhpaa

theorem roundMay_holds : Rows.RoundMaySaid := roundMay.over
#print axioms roundMay_holds

end Go.Proofs.Ytchkpgncelbhpaa
