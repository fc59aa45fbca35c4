/-
  To be within is an order: one is within oneself; two that are within each other are the same; and who is within one that is within another one is within that: the law CutWithin returns true for every input.
  No condition beyond the form's own.
-/
import Derived.Test.YtodemfkjieonoaaRows
import Derived.Test.YtodemfkjieonoaaCtF
import Derived.WalkKit
import Derived.ProofKit
import Derived.OpenShut
import Derived.ShutString
import Derived.SizedLaws
import Derived.ChangeOld
import Derived.Below
namespace Go.Proofs.Ytodemfkjieonoaa.cutWithin
open Go.Sort Go.ChangeShapes Go.WideShapes Go.ChangeAt Go.RowKit
open Go.ChangeMaps (open_string shut_string)
set_option linter.unusedVariables false
set_option maxRecDepth 10000

theorem own : ownKnob Try.prog.godebug = none := by kernel_rfl
theorem length_bytes (s : ByteArray) : s.data.toList.length = s.size := by rw [Array.length_toList]; rfl

theorem within_self (a : Nat → Nat) : withB a a = true := (withB_iff a a).2 fun _ _ => Nat.le_refl _
theorem within_both (a b : Nat → Nat) (h : withB a b = true) : withB b a = mbSame a b := by
  rw [Bool.eq_iff_iff, withB_iff, mbSame_iff]
  rw [withB_iff] at h
  exact ⟨fun g i hi => Nat.le_antisymm (h i hi) (g i hi), fun g i hi => Nat.le_of_eq (g i hi).symm⟩
theorem within_trans (a b c : Nat → Nat) (h : withB a b = true) (g : withB b c = true) : withB a c = true := by
  rw [withB_iff] at *
  exact fun i hi => Nat.le_trans (h i hi) (g i hi)

set_option maxHeartbeats 8000000 in
theorem walk (a : Nat → Nat) (ka : ∀ i, a i < 4294967296) (b : Nat → Nat) (kb : ∀ i, b i < 4294967296) (c : Nat → Nat) (kc : ∀ i, c i < 4294967296) (w : World) : Calls Try.prog 7 #[.agg (mbc a), .agg (mbc b), .agg (mbc c)] w fun e w' => e = .returned (.bool true) ∧ Below w.heap.size w w' := by
  clear ka kb kc
  have pAA := within_ok a a
  have pAB := within_ok a b
  have pBA := within_ok b a
  have pBC := within_ok b c
  have pAC := within_ok a c
  rw [within_self] at pAA
  have H1 := within_both a b
  have H2 := within_trans a b c
  obtain ⟨E, hE⟩ : ∃ E, mbSame a b = E := ⟨_, rfl⟩
  have kE := eqlCt a b E hE
  rw [hE] at H1
  clear hE
  obtain ⟨a0, a1, a2, hB⟩ := three_blk (T0 := 25) (T1 := 25) (T2 := 25) (C0 := mbc a) (C1 := mbc b) (C2 := mbc c) (w := w) rfl
  generalize withB a b = AB at pAB H1 H2
  generalize withB b a = BA at pBA H1
  generalize withB b c = BC at pBC H2
  generalize withB a c = AC at pAC H2
  go_enter Try.func7, Try.ntmps7
  go_upto_region 1 with fail
  generalize ((w.alloc (Obj.cells (mbc a) 25)).alloc (Obj.cells (mbc b) 25)).alloc (Obj.cells (mbc c) 25) = W at a0 a1 a2 hB ⊢
  cases AB with
  | false =>
    clear H1 H2 pAC pBC
    have kN : (E != E) = false := by simp
    generalize hBE : BA = E' at pBA
    clear hBE
    have l0 := a0.regrown
    have l1 := a1.regrown
    have l2 := a2.regrown
    have r0 : ∀ d' os, Calls Try.prog 8 #[] (grow (redrawn W d') os) fun e w'' => e = .returned (.bool true) ∧ ∃ p : Regrown, w'' = grow (redrawn W p.d) p.os := fun d' os => Calls.regrown_of (fixed_ok _)
    have r1 : ∀ d' os, Calls Try.prog 11 #[.agg (mbc a), .agg (mbc a)] (grow (redrawn W d') os) fun e w'' => e = .returned (.bool true) ∧ ∃ p : Regrown, w'' = grow (redrawn W p.d) p.os := fun d' os => Calls.regrown_of (pAA _)
    have r2 : ∀ d' os, Calls Try.prog 11 #[.agg (mbc a), .agg (mbc b)] (grow (redrawn W d') os) fun e w'' => e = .returned (.bool false) ∧ ∃ p : Regrown, w'' = grow (redrawn W p.d) p.os := fun d' os => Calls.regrown_of (pAB _)
    have r3 : ∀ d' os, Calls Try.prog 11 #[.agg (mbc b), .agg (mbc a)] (grow (redrawn W d') os) fun e w'' => e = .returned (.bool E') ∧ ∃ p : Regrown, w'' = grow (redrawn W p.d) p.os := fun d' os => Calls.regrown_of (pBA _)
    refine wp_region_quiet_below (by kernel_rfl) (by kernel_rfl) ?_
    repeat (first
      | (go_big_quiet_want; refine quiet_load rfl rfl l0 Try.underlying25 rfl sizeCt ?_; simp only [Act.put, List.setIfInBounds_toArray, List.set_cons_zero, List.set_cons_succ]; go_big_quiet_on)
      | (go_big_quiet_want; refine quiet_load rfl rfl l1 Try.underlying25 rfl sizeCt ?_; simp only [Act.put, List.setIfInBounds_toArray, List.set_cons_zero, List.set_cons_succ]; go_big_quiet_on)
      | (go_big_quiet_want; refine quiet_load rfl rfl l2 Try.underlying25 rfl sizeCt ?_; simp only [Act.put, List.setIfInBounds_toArray, List.set_cons_zero, List.set_cons_succ]; go_big_quiet_on)
      | go_big_quiet_step (first | with_reducible exact r0 _ _ | with_reducible exact r1 _ _ | with_reducible exact r2 _ _ | with_reducible exact r3 _ _))
    refine wpQuiet_nil ?_
    intro _ hw'
    obtain ⟨⟨dq, osq⟩, hw''⟩ := hw'
    have hb := below_regrown W dq osq
    subst hw''
    generalize grow (redrawn W dq) osq = w1 at hb ⊢
    replace a0 := a0.below hb
    replace a1 := a1.below hb
    replace a2 := a2.below hb
    replace hB := hB.trans (hb.mono hB.size)
    clear hb
    clear r0 r1 r2 r3 l0 l1 l2
    go_wp2_with (first | refine load_blk rfl 25 _ rfl a0 rfl Try.underlying25 rfl sizeCt ?_ | refine load_blk rfl 25 _ rfl a1 rfl Try.underlying25 rfl sizeCt ?_ | refine load_blk rfl 25 _ rfl a2 rfl Try.underlying25 rfl sizeCt ?_ | refine load_want rfl 25 _ rfl a0 rfl Try.underlying25 rfl sizeCt ?_ | refine load_want rfl 25 _ rfl a1 rfl Try.underlying25 rfl sizeCt ?_ | refine load_want rfl 25 _ rfl a2 rfl Try.underlying25 rfl sizeCt ?_)
    refine (pAB _).mono ?_
    rintro r w2 ⟨rfl, hb⟩
    replace a0 := a0.below hb
    replace a1 := a1.below hb
    replace a2 := a2.below hb
    replace hB := hB.trans (hb.mono hB.size)
    clear hb
    go_wp2_with fail
    go_ret
    exact ⟨rfl, hB⟩
  | true =>
    obtain rfl : BA = E := H1 rfl
    have kN : (BA != BA) = false := by simp
    have l0 := a0.regrown
    have l1 := a1.regrown
    have l2 := a2.regrown
    have r0 : ∀ d' os, Calls Try.prog 8 #[] (grow (redrawn W d') os) fun e w'' => e = .returned (.bool true) ∧ ∃ p : Regrown, w'' = grow (redrawn W p.d) p.os := fun d' os => Calls.regrown_of (fixed_ok _)
    have r1 : ∀ d' os, Calls Try.prog 11 #[.agg (mbc a), .agg (mbc a)] (grow (redrawn W d') os) fun e w'' => e = .returned (.bool true) ∧ ∃ p : Regrown, w'' = grow (redrawn W p.d) p.os := fun d' os => Calls.regrown_of (pAA _)
    have r2 : ∀ d' os, Calls Try.prog 11 #[.agg (mbc a), .agg (mbc b)] (grow (redrawn W d') os) fun e w'' => e = .returned (.bool true) ∧ ∃ p : Regrown, w'' = grow (redrawn W p.d) p.os := fun d' os => Calls.regrown_of (pAB _)
    have r3 : ∀ d' os, Calls Try.prog 11 #[.agg (mbc b), .agg (mbc a)] (grow (redrawn W d') os) fun e w'' => e = .returned (.bool BA) ∧ ∃ p : Regrown, w'' = grow (redrawn W p.d) p.os := fun d' os => Calls.regrown_of (pBA _)
    refine wp_region_quiet_below (by kernel_rfl) (by kernel_rfl) ?_
    repeat (first
      | (go_big_quiet_want; refine quiet_load rfl rfl l0 Try.underlying25 rfl sizeCt ?_; simp only [Act.put, List.setIfInBounds_toArray, List.set_cons_zero, List.set_cons_succ]; go_big_quiet_on)
      | (go_big_quiet_want; refine quiet_load rfl rfl l1 Try.underlying25 rfl sizeCt ?_; simp only [Act.put, List.setIfInBounds_toArray, List.set_cons_zero, List.set_cons_succ]; go_big_quiet_on)
      | (go_big_quiet_want; refine quiet_load rfl rfl l2 Try.underlying25 rfl sizeCt ?_; simp only [Act.put, List.setIfInBounds_toArray, List.set_cons_zero, List.set_cons_succ]; go_big_quiet_on)
      | go_big_quiet_step (first | with_reducible exact r0 _ _ | with_reducible exact r1 _ _ | with_reducible exact r2 _ _ | with_reducible exact r3 _ _))
    refine wpQuiet_nil ?_
    intro _ hw'
    obtain ⟨⟨dq, osq⟩, hw''⟩ := hw'
    have hb := below_regrown W dq osq
    subst hw''
    generalize grow (redrawn W dq) osq = w1 at hb ⊢
    replace a0 := a0.below hb
    replace a1 := a1.below hb
    replace a2 := a2.below hb
    replace hB := hB.trans (hb.mono hB.size)
    clear hb
    clear r0 r1 r2 r3 l0 l1 l2
    go_wp2_with (first | refine load_blk rfl 25 _ rfl a0 rfl Try.underlying25 rfl sizeCt ?_ | refine load_blk rfl 25 _ rfl a1 rfl Try.underlying25 rfl sizeCt ?_ | refine load_blk rfl 25 _ rfl a2 rfl Try.underlying25 rfl sizeCt ?_ | refine load_want rfl 25 _ rfl a0 rfl Try.underlying25 rfl sizeCt ?_ | refine load_want rfl 25 _ rfl a1 rfl Try.underlying25 rfl sizeCt ?_ | refine load_want rfl 25 _ rfl a2 rfl Try.underlying25 rfl sizeCt ?_)
    refine (pAB _).mono ?_
    rintro r w2 ⟨rfl, hb⟩
    replace a0 := a0.below hb
    replace a1 := a1.below hb
    replace a2 := a2.below hb
    replace hB := hB.trans (hb.mono hB.size)
    clear hb
    go_wp2_with (first | refine load_blk rfl 25 _ rfl a0 rfl Try.underlying25 rfl sizeCt ?_ | refine load_blk rfl 25 _ rfl a1 rfl Try.underlying25 rfl sizeCt ?_ | refine load_blk rfl 25 _ rfl a2 rfl Try.underlying25 rfl sizeCt ?_ | refine load_want rfl 25 _ rfl a0 rfl Try.underlying25 rfl sizeCt ?_ | refine load_want rfl 25 _ rfl a1 rfl Try.underlying25 rfl sizeCt ?_ | refine load_want rfl 25 _ rfl a2 rfl Try.underlying25 rfl sizeCt ?_)
    refine (pBC _).mono ?_
    rintro r w3 ⟨rfl, hb⟩
    replace a0 := a0.below hb
    replace a1 := a1.below hb
    replace a2 := a2.below hb
    replace hB := hB.trans (hb.mono hB.size)
    clear hb
    cases BC with
    | false =>
      go_wp2_with fail
      go_ret
      exact ⟨rfl, hB⟩
    | true =>
      obtain rfl : AC = true := by simpa using H2
      go_wp2_with (first | refine load_blk rfl 25 _ rfl a0 rfl Try.underlying25 rfl sizeCt ?_ | refine load_blk rfl 25 _ rfl a1 rfl Try.underlying25 rfl sizeCt ?_ | refine load_blk rfl 25 _ rfl a2 rfl Try.underlying25 rfl sizeCt ?_ | refine load_want rfl 25 _ rfl a0 rfl Try.underlying25 rfl sizeCt ?_ | refine load_want rfl 25 _ rfl a1 rfl Try.underlying25 rfl sizeCt ?_ | refine load_want rfl 25 _ rfl a2 rfl Try.underlying25 rfl sizeCt ?_)
      refine (pAC _).mono ?_
      rintro r w4 ⟨rfl, hb⟩
      replace a0 := a0.below hb
      replace a1 := a1.below hb
      replace a2 := a2.below hb
      replace hB := hB.trans (hb.mono hB.size)
      clear hb
      go_wp2_with fail
      go_ret
      exact ⟨rfl, hB⟩

set_option maxRecDepth 100000 in
theorem lifted (os : Go.Os) (started : os.Started) (H : Type) (enc : TypeId × Value → H) :
    ReturnsInHanded {} Try.checked os 7 .any (Rows.cutWithinSpec.pre6 enc Try.prog Try.f7 Rows.cutWithinRow.domain false) (Rows.cutWithinSpec.post enc Try.prog Try.f7 false true false false) := by
  refine returnsInHanded_of_change_sized (C := Try.checked) own started (by kernel_rfl) Try.func7
    (ChangeSpec.witness6 (enc := enc) (C := Try.checked) false ⟨#[], #[.agg (mbc noMb), .agg (mbc noMb), .agg (mbc noMb)], []⟩ 8 (by kernel_rfl) (by kernel_rfl) (by kernel_rfl) (by kernel_rfl)) ?_
  intro W base args ds gs before hval0 hW hcnd hsz0 _
  have hval : ∀ (j : Nat) t v, Try.f7.params[j]? = some t → args[j]? = some v → Value.okWide Try.prog W .any base t v := hval0
  have hsz : (DataW.weightsEach Try.prog (Try.f7.params.toList ++ Rows.cutWithinSpec.plain.varTypes Try.prog) (ds ++ gs)).all (· ≤ reachBytes) = true := hsz0
  have hW' := hW
  obtain ⟨p, q, hA0, hV, rfl, hfz, hnd⟩ := hW
  have hA : DataW.TrodAll enc Try.prog W 0 (fun _ => true) true Try.f7.params.toList args.toList ds p := hA0
  rw [Try.params7] at hA hval hsz

  obtain ⟨v0, vs0, d0, ds0, p0, q0, hargs, rfl, rfl, h0, r0⟩ := trodAll_cons hA
  obtain ⟨v1, vs1, d1, ds1, p1, q1, rfl, rfl, rfl, h1, r1⟩ := trodAll_cons r0
  obtain ⟨v2, vs2, d2, ds2, p2, q2, rfl, rfl, rfl, h2, r2⟩ := trodAll_cons r1
  obtain ⟨rfl, rfl, rfl⟩ := trodAll_nil r2
  obtain rfl : args = #[v0, v1, v2] := by cases args; simp_all
  obtain ⟨rfl, rfl⟩ := trodVars_none hV
  obtain ⟨c0, rfl, kc0⟩ := open_ct (by obtain ⟨cs, h1, _⟩ := (by simpa only [Value.okWide, Try.underlying25] using hval 0 25 v0 rfl rfl : ∃ cs, v0 = .agg cs ∧ _); exact ⟨cs, h1⟩) h0
  obtain ⟨c1, rfl, kc1⟩ := open_ct (by obtain ⟨cs, h1, _⟩ := (by simpa only [Value.okWide, Try.underlying25] using hval 1 25 v1 rfl rfl : ∃ cs, v1 = .agg cs ∧ _); exact ⟨cs, h1⟩) h1
  obtain ⟨c2, rfl, kc2⟩ := open_ct (by obtain ⟨cs, h1, _⟩ := (by simpa only [Value.okWide, Try.underlying25] using hval 2 25 v2 rfl rfl : ∃ cs, v2 = .agg cs ∧ _); exact ⟨cs, h1⟩) h2
  have hA2 := hA0
  clear hA0 hval0 hsz0
  simp only [List.append_nil] at hW'
  refine (walk c0 kc0 c1 kc1 c2 kc2 W).mono fun e W' ⟨he, bel⟩ => ?_
  subst he
  exact ⟨_, rfl, _, _, _, [], _, [], hW', trodAll_mk1 (shut_bool Try.underlying4 _), (stays_all laidOut bel (by kernel_rfl) hA2), rfl, bel.frame _, fun h => by cases h⟩

theorem over : Rows.cutWithinRow.holds Try.pinned (OpenSpec.ofChange Rows.cutWithinSpec) :=
  OpenClaim.holds_of_wide 7 Try.f7 rfl rfl rfl rfl rfl rfl rfl ⟨rfl, rfl, rfl, rfl, rfl⟩ rfl rfl rfl rfl rfl (by kernel_rfl) Try.func7 (by kernel_rfl)
    (of_decide_eq_true (by kernel_rfl)) (by unfold Func.isWrapper; first | (rw [if_pos (by decide +kernel)]; kernel_rfl) | (rw [if_neg (by decide +kernel)]; exact ⟨rfl, rfl⟩))
    (fun os started H enc _ => lifted os started H enc)

end Go.Proofs.Ytodemfkjieonoaa.cutWithin
namespace Go.Proofs.Ytodemfkjieonoaa

theorem cutWithin_holds : Rows.CutWithinSaid := cutWithin.over
#print axioms cutWithin_holds

end Go.Proofs.Ytodemfkjieonoaa
