/-
  The least count, who may send, and where one stands in the order, is as the document says: the law RoundTells returns true for every input.
  No condition beyond the form's own.
-/
import Derived.Test.YtchkpgncelbhpaaRows
import Derived.Test.YtchkpgncelbhpaaRdR
import Derived.Test.YtchkpgncelbhpaaRdC
import Derived.Test.YtchkpgncelbhpaaRdF
import Derived.Test.YtchkpgncelbhpaaRdT
import Derived.WalkKit
import Derived.ProofKit
import Derived.OpenShut
import Derived.ShutString
import Derived.SizedLaws
import Derived.ChangeOld
import Derived.Below
namespace Go.Proofs.Ytchkpgncelbhpaa.roundTells
open Go.Sort Go.ChangeShapes Go.WideShapes Go.ChangeAt Go.RowKit
open Go.ChangeMaps (open_string shut_string)
set_option linter.unusedVariables false
set_option maxRecDepth 10000

theorem own : ownKnob Try.prog.godebug = none := by kernel_rfl
theorem length_bytes (s : ByteArray) : s.data.toList.length = s.size := by rw [Array.length_toList]; rfl

set_option maxHeartbeats 8000000 in
theorem walk (c : Nat → Nat) (kc : ∀ i, c i < 4294967296) (m : Nat → Nat) (x y : Pl) (w : World) : Calls Try.prog 3 #[.agg (mbc c), .agg (mbc m), .agg (ppc x y)] w fun e w' => e = .returned (.bool true) ∧ Below w.heap.size w w' := by
  have pL := cleast_ok c m
  have pR := rleast_ok c m
  have pA := may_ok c m x.f
  have pB := rmay_ok c m kc x.f
  have pC := bef_ok x y
  have pD := rbef_ok x y
  have pE := pos_ok c m kc
  have pF := rpos_ok c m kc
  generalize leastC c m = q at pL pR
  generalize (!(lst m).isEmpty) = o at pL pR
  generalize mayB c m x.f = u at pA pB
  generalize befB x y = v at pC pD
  generalize posP c m = P at pE pF
  clear kc
  obtain ⟨a0, a1, a2, hB⟩ := three_blk (T0 := 24) (T1 := 25) (T2 := 29) (C0 := mbc c) (C1 := mbc m) (C2 := ppc x y) (w := w) rfl
  go_enter Try.func3, Try.ntmps3
  go_upto_region 1 with fail
  generalize ((w.alloc (Obj.cells (mbc c) 24)).alloc (Obj.cells (mbc m) 25)).alloc (Obj.cells (ppc x y) 29) = W at a0 a1 a2 hB ⊢
  go_wp2_with (first | refine load_blk rfl 24 _ rfl a0 rfl Try.underlying24 rfl sizeCt ?_ | refine load_blk rfl 25 _ rfl a1 rfl Try.underlying25 rfl sizeMb ?_)
  refine (pL _).mono ?_
  rintro r w1 ⟨rfl, hb⟩
  replace a0 := a0.below hb
  replace a1 := a1.below hb
  replace a2 := a2.below hb
  replace hB := hB.trans (hb.mono hB.size)
  clear hb pL
  go_wp2_with (first | refine load_blk rfl 24 _ rfl a0 rfl Try.underlying24 rfl sizeCt ?_ | refine load_blk rfl 25 _ rfl a1 rfl Try.underlying25 rfl sizeMb ?_)
  refine (pR _).mono ?_
  rintro r w2 ⟨rfl, hb⟩
  replace a0 := a0.below hb
  replace a1 := a1.below hb
  replace a2 := a2.below hb
  replace hB := hB.trans (hb.mono hB.size)
  clear hb pR
  go_upto_region 3 with fail
  try simp only [Act.put, List.setIfInBounds_toArray, List.set_cons_zero, List.set_cons_succ]
  have lc := a0.regrown
  have lm := a1.regrown
  have la : ∀ w', (∃ p : Regrown, w' = grow (redrawn w2 p.d) p.os) → w'.rangeAt (w.heap.size + 1 + 1) 0 x.vals := fun w' h => (a2.regrown w' h).range 0 x.vals (ppc_a x y)
  have lb : ∀ w', (∃ p : Regrown, w' = grow (redrawn w2 p.d) p.os) → w'.rangeAt (w.heap.size + 1 + 1) 3 y.vals := fun w' h => (a2.regrown w' h).range 3 y.vals (ppc_b x y)
  have q0 : ∀ d' os, (grow (redrawn w2 d') os).cell? ⟨w.heap.size + 1 + 1, 1, none⟩ = some (.int .i64 x.f) := cell_regrown (a2.cell 1 _ rfl)
  have kP := eqlPl P P true (Pl.same_self P)
  have r0 : ∀ d' os, Calls Try.prog 10 #[] (grow (redrawn w2 d') os) fun e w'' => e = .returned (.bool true) ∧ ∃ p : Regrown, w'' = grow (redrawn w2 p.d) p.os := fun d' os => Calls.regrown_of (fixed_ok _)
  have r1 : ∀ d' os, Calls Try.prog 11 #[.agg (mbc c), .agg (mbc m), .int .i64 x.f] (grow (redrawn w2 d') os) fun e w'' => e = .returned (.bool u) ∧ ∃ p : Regrown, w'' = grow (redrawn w2 p.d) p.os := fun d' os => Calls.regrown_of (pA _)
  have r2 : ∀ d' os, Calls Try.prog 12 #[.agg (mbc c), .agg (mbc m), .int .i64 x.f] (grow (redrawn w2 d') os) fun e w'' => e = .returned (.bool u) ∧ ∃ p : Regrown, w'' = grow (redrawn w2 p.d) p.os := fun d' os => Calls.regrown_of (pB _)
  have r3 : ∀ d' os, Calls Try.prog 13 #[.agg x.vals.toArray, .agg y.vals.toArray] (grow (redrawn w2 d') os) fun e w'' => e = .returned (.bool v) ∧ ∃ p : Regrown, w'' = grow (redrawn w2 p.d) p.os := fun d' os => Calls.regrown_of (pC _)
  have r4 : ∀ d' os, Calls Try.prog 14 #[.agg x.vals.toArray, .agg y.vals.toArray] (grow (redrawn w2 d') os) fun e w'' => e = .returned (.bool v) ∧ ∃ p : Regrown, w'' = grow (redrawn w2 p.d) p.os := fun d' os => Calls.regrown_of (pD _)
  have r5 : ∀ d' os, Calls Try.prog 15 #[.agg (mbc c), .agg (mbc m)] (grow (redrawn w2 d') os) fun e w'' => e = .returned (.agg P.arr) ∧ ∃ p : Regrown, w'' = grow (redrawn w2 p.d) p.os := fun d' os => Calls.regrown_of (pE _)
  have r6 : ∀ d' os, Calls Try.prog 16 #[.agg (mbc c), .agg (mbc m)] (grow (redrawn w2 d') os) fun e w'' => e = .returned (.agg P.arr) ∧ ∃ p : Regrown, w'' = grow (redrawn w2 p.d) p.os := fun d' os => Calls.regrown_of (pF _)
  clear pA pB pC pD pE pF
  refine wp_region_quiet_below (by kernel_rfl) (by kernel_rfl) ?_
  repeat (first
    | (go_big_quiet_want; refine quiet_load rfl rfl lc Try.underlying24 rfl sizeCt ?_; simp only [Act.put, List.setIfInBounds_toArray, List.set_cons_zero, List.set_cons_succ]; go_big_quiet_on)
    | (go_big_quiet_want; refine quiet_load rfl rfl lm Try.underlying25 rfl sizeMb ?_; simp only [Act.put, List.setIfInBounds_toArray, List.set_cons_zero, List.set_cons_succ]; go_big_quiet_on)
    | (go_big_quiet_want; refine quiet_range (off := 0) rfl rfl la Try.underlying27 rfl sizePl ?_; simp only [Act.put, List.setIfInBounds_toArray, List.set_cons_zero, List.set_cons_succ]; go_big_quiet_on)
    | (go_big_quiet_want; refine quiet_range (off := 3) rfl rfl lb Try.underlying27 rfl sizePl ?_; simp only [Act.put, List.setIfInBounds_toArray, List.set_cons_zero, List.set_cons_succ]; go_big_quiet_on)
    | go_big_quiet_step (first | with_reducible exact r0 _ _ | with_reducible exact r1 _ _ | with_reducible exact r2 _ _ | with_reducible exact r3 _ _ | with_reducible exact r4 _ _ | with_reducible exact r5 _ _ | with_reducible exact r6 _ _))
  refine wpQuiet_nil ?_
  intro _ hw'
  obtain ⟨⟨dq, osq⟩, hw''⟩ := hw'
  have hb := below_regrown w2 dq osq
  subst hw''
  generalize grow (redrawn w2 dq) osq = w3 at hb ⊢
  replace hB := hB.trans (hb.mono hB.size)
  clear hb
  go_wp2_with fail
  go_ret
  exact ⟨rfl, hB⟩

set_option maxRecDepth 100000 in
theorem lifted (os : Os) (started : os.Started) (H : Type) (enc : TypeId × Value → H) :
    ReturnsInHanded {} Try.checked os 3 .any (Rows.roundTellsSpec.pre6 enc Try.prog Try.f3 Rows.roundTellsRow.domain false) (Rows.roundTellsSpec.post enc Try.prog Try.f3 false true false false) := by
  refine returnsInHanded_of_change_sized (C := Try.checked) own started (by kernel_rfl) Try.func3
    (ChangeSpec.witness6 (enc := enc) (C := Try.checked) false ⟨#[], #[.agg (mbc noMb), .agg (mbc noMb), .agg (ppc Pl.zero Pl.zero)], []⟩ 8 (by kernel_rfl) (by kernel_rfl) (by kernel_rfl) (by kernel_rfl)) ?_
  intro W base args ds gs before hval0 hW hcnd hsz0 _
  have hval : ∀ (j : Nat) t v, Try.f3.params[j]? = some t → args[j]? = some v → Value.okWide Try.prog W .any base t v := hval0
  have hsz : (DataW.weightsEach Try.prog (Try.f3.params.toList ++ Rows.roundTellsSpec.plain.varTypes Try.prog) (ds ++ gs)).all (· ≤ reachBytes) = true := hsz0
  have hW' := hW
  obtain ⟨p, q, hA0, hV, rfl, hfz, hnd⟩ := hW
  have hA : DataW.TrodAll enc Try.prog W 0 (fun _ => true) true Try.f3.params.toList args.toList ds p := hA0
  rw [Try.params3] at hA hval hsz

  obtain ⟨v0, vs0, d0, ds0, p0, q0, hargs, rfl, rfl, h0, r0⟩ := trodAll_cons hA
  obtain ⟨v1, vs1, d1, ds1, p1, q1, rfl, rfl, rfl, h1, r1⟩ := trodAll_cons r0
  obtain ⟨v2, vs2, d2, ds2, p2, q2, rfl, rfl, rfl, h2, r2⟩ := trodAll_cons r1
  obtain ⟨rfl, rfl, rfl⟩ := trodAll_nil r2
  obtain rfl : args = #[v0, v1, v2] := by cases args; simp_all
  obtain ⟨rfl, rfl⟩ := trodVars_none hV
  obtain ⟨c0, rfl, kc0⟩ := open_ct (by obtain ⟨cs, h1, _⟩ := (by simpa only [Value.okWide, Try.underlying24] using hval 0 24 v0 rfl rfl : ∃ cs, v0 = .agg cs ∧ _); exact ⟨cs, h1⟩) h0
  obtain ⟨m1, rfl⟩ := open_mb (by obtain ⟨cs, h1, _⟩ := (by simpa only [Value.okWide, Try.underlying25] using hval 1 25 v1 rfl rfl : ∃ cs, v1 = .agg cs ∧ _); exact ⟨cs, h1⟩) h1
  obtain ⟨x2, y2, rfl, kx2, ky2⟩ := open_pp (by obtain ⟨cs, h1, _⟩ := okWide_struct Try.underlying29 (hval 2 29 v2 rfl rfl); exact ⟨cs, h1⟩) h2
  have hA2 := hA0
  clear hA0 hval0 hsz0
  simp only [List.append_nil] at hW'
  refine (walk c0 kc0 m1 x2 y2 W).mono fun e W' ⟨he, bel⟩ => ?_
  subst he
  exact ⟨_, rfl, _, _, _, [], _, [], hW', trodAll_mk1 (shut_bool Try.underlying4 _), (stays_all laidOut bel (by kernel_rfl) hA2), rfl, bel.frame _, fun h => by cases h⟩

theorem over : Rows.roundTellsRow.holds Try.pinned (OpenSpec.ofChange Rows.roundTellsSpec) :=
  OpenClaim.holds_of_wide 3 Try.f3 rfl rfl rfl rfl rfl rfl rfl ⟨rfl, rfl, rfl, rfl, rfl⟩ rfl rfl rfl rfl rfl (by kernel_rfl) Try.func3 (by kernel_rfl)
    (of_decide_eq_true (by kernel_rfl)) (by unfold Func.isWrapper; first | (rw [if_pos (by decide +kernel)]; kernel_rfl) | (rw [if_neg (by decide +kernel)]; exact ⟨rfl, rfl⟩))
    (fun os started H enc _ => lifted os started H enc)

end Go.Proofs.Ytchkpgncelbhpaa.roundTells
namespace Go.Proofs.Ytchkpgncelbhpaa

theorem roundTells_holds : Rows.RoundTellsSaid := roundTells.over
#print axioms roundTells_holds

end Go.Proofs.Ytchkpgncelbhpaa
