/-
  What comes of any clock by a tick, and where a daemon is heard, and whom it reaches, is as the document says: the law BeatTells returns true for every input.
  No condition beyond the form's own.
-/
import Derived.Test.YteodacgolpfodaaRows
import Derived.Test.YteodacgolpfodaaBtR
import Derived.Test.YteodacgolpfodaaBtF
import Derived.WalkKit
import Derived.ProofKit
import Derived.OpenShut
import Derived.ShutString
import Derived.SizedLaws
import Derived.ChangeOld
import Derived.Below
namespace Go.Proofs.Yteodacgolpfodaa.beatTells
open Go.Sort Go.ChangeShapes Go.WideShapes Go.ChangeAt Go.RowKit
open Go.ChangeMaps (open_string shut_string)
set_option linter.unusedVariables false
set_option maxRecDepth 10000

theorem own : ownKnob Try.prog.godebug = none := by kernel_rfl
theorem length_bytes (s : ByteArray) : s.data.toList.length = s.size := by rw [Array.length_toList]; rfl

set_option maxHeartbeats 4000000 in
theorem walk_nat (b : Bt) (ko : b.ok) (i : Int) (n : Nat) (wt : Nat) (kw : wt < 4294967296) (w : World) : Calls Try.prog 3 #[.agg b.arr, .agg (hc i n), .int .u32 (wt : Int)] w fun e w' => e = .returned (.bool true) ∧ Below w.heap.size w w' := by
  have pA := hear_ok b i n
  have pB := rhear_ok b i n
  have pC := tick_ok b
  have pD := rtick_ok b ko.now
  have pE := reach_ok b i n wt ko.now
  have pF := rreach_ok b i n wt ko.now ko.hd kw
  have kR := eqlMb (rchB b i n wt) (rchB b i n wt) true (mbSame_self _)
  generalize hearB b i n = D at pA pB
  generalize hearsB b i n = O at pA pB
  generalize tickB b = E at pC pD
  generalize rchB b i n wt = R at pE pF kR
  clear ko kw
  obtain ⟨a0, a1, hB⟩ := two_blk (T0 := 25) (T1 := 27) (C0 := b.arr) (C1 := hc i n) (w := w) rfl
  go_enter Try.func3, Try.ntmps3
  go_upto_region 1 with fail
  generalize (w.alloc (Obj.cells b.arr 25)).alloc (Obj.cells (hc i n) 27) = W at a0 a1 hB ⊢
  have q0 := a1.cell 0 (.int .i64 i) rfl
  have q1 := a1.cell 1 (.int .u32 (n : Int)) rfl
  go_wp2_with (refine load_blk rfl 25 _ rfl a0 rfl Try.underlying25 rfl b.size ?_)
  clear q0 q1
  refine (pA _).mono ?_
  rintro r w1 ⟨rfl, hb⟩
  replace a0 := a0.below hb
  replace a1 := a1.below hb
  replace hB := hB.trans (hb.mono hB.size)
  clear hb
  replace a0 := a0.alloc (.cells D.arr 25)
  replace a1 := a1.alloc (.cells D.arr 25)
  have c1 := blk_new w1 D.arr 25
  replace hB : Below w.heap.size w (w1.alloc (.cells D.arr 25)) := hB.alloc hB.size _
  have q0 := a1.cell 0 (.int .i64 i) rfl
  have q1 := a1.cell 1 (.int .u32 (n : Int)) rfl
  go_wp2_with (first | refine alloc_zero zeroBt rfl rfl ?_ | refine store_new rfl 25 _ _ rfl (cells := D.arr) rfl rfl D.size rfl D.arr_one ?_ | refine load_blk rfl 25 _ rfl a0 rfl Try.underlying25 rfl b.size ?_)
  clear q0 q1
  refine (pB _).mono ?_
  rintro r w2 ⟨rfl, hb⟩
  replace a0 := a0.below hb
  replace a1 := a1.below hb
  replace c1 := c1.below hb
  replace hB := hB.trans (hb.mono hB.size)
  clear hb
  generalize w1.heap.size = p1 at c1 ⊢
  replace a0 := a0.alloc (.cells D.arr 25)
  replace a1 := a1.alloc (.cells D.arr 25)
  replace c1 := c1.alloc (.cells D.arr 25)
  have c2 := blk_new w2 D.arr 25
  replace hB : Below w.heap.size w (w2.alloc (.cells D.arr 25)) := hB.alloc hB.size _
  go_upto_region 3 with (first | refine alloc_zero zeroBt rfl rfl ?_ | refine store_new rfl 25 _ _ rfl (cells := D.arr) rfl rfl D.size rfl D.arr_one ?_)
  have hV : Below w.heap.size w (w2.alloc (.cells D.arr 25)) := hB
  generalize w2.heap.size = p2 at c2 ⊢
  generalize w2.alloc (.cells D.arr 25) = V at a0 a1 c1 c2 hV ⊢
  clear hB
  have q0 : ∀ d os, (grow (redrawn V d) os).cell? ⟨w.heap.size + 1, 0, none⟩ = some (.int .i64 i) := cell_regrown (a1.cell 0 _ rfl)
  have q1 : ∀ d os, (grow (redrawn V d) os).cell? ⟨w.heap.size + 1, 1, none⟩ = some (.int .u32 (n : Int)) := cell_regrown (a1.cell 1 _ rfl)
  have l0 := a0.regrown
  have l1 := c1.regrown
  have l2 := c2.regrown
  have kT := eqlBt E
  have kD := eqlBt D
  have r0 : ∀ d os, Calls Try.prog 9 #[] (grow (redrawn V d) os) fun e w'' => e = .returned (.bool true) ∧ ∃ p : Regrown, w'' = grow (redrawn V p.d) p.os := fun d os => Calls.regrown_of (fixed_ok _)
  have r1 : ∀ d os, Calls Try.prog 10 #[.agg b.arr] (grow (redrawn V d) os) fun e w'' => e = .returned (.agg E.arr) ∧ ∃ p : Regrown, w'' = grow (redrawn V p.d) p.os := fun d os => Calls.regrown_of (pC _)
  have r2 : ∀ d os, Calls Try.prog 11 #[.agg b.arr] (grow (redrawn V d) os) fun e w'' => e = .returned (.agg E.arr) ∧ ∃ p : Regrown, w'' = grow (redrawn V p.d) p.os := fun d os => Calls.regrown_of (pD _)
  have r3 : ∀ d os, Calls Try.prog 12 #[.agg b.arr, .int .i64 i, .int .u32 (n : Int), .int .u32 (wt : Int)] (grow (redrawn V d) os) fun e w'' => e = .returned (.agg (mbc R)) ∧ ∃ p : Regrown, w'' = grow (redrawn V p.d) p.os := fun d os => Calls.regrown_of (pE _)
  have r4 : ∀ d os, Calls Try.prog 13 #[.agg b.arr, .int .i64 i, .int .u32 (n : Int), .int .u32 (wt : Int)] (grow (redrawn V d) os) fun e w'' => e = .returned (.agg (mbc R)) ∧ ∃ p : Regrown, w'' = grow (redrawn V p.d) p.os := fun d os => Calls.regrown_of (pF _)
  clear pA pB pC pD pE pF a0 a1 c1 c2
  refine wp_region_quiet_below (by kernel_rfl) (by kernel_rfl) ?_
  repeat (first
    | (go_big_quiet_want; refine quiet_load rfl rfl l0 Try.underlying25 rfl b.size ?_; simp only [Act.put, List.setIfInBounds_toArray, List.set_cons_zero, List.set_cons_succ]; go_big_quiet_on)
    | (go_big_quiet_want; refine quiet_load rfl rfl l1 Try.underlying25 rfl D.size ?_; simp only [Act.put, List.setIfInBounds_toArray, List.set_cons_zero, List.set_cons_succ]; go_big_quiet_on)
    | (go_big_quiet_want; refine quiet_load rfl rfl l2 Try.underlying25 rfl D.size ?_; simp only [Act.put, List.setIfInBounds_toArray, List.set_cons_zero, List.set_cons_succ]; go_big_quiet_on)
    | go_big_quiet_step (first | with_reducible exact r0 _ _ | with_reducible exact r1 _ _ | with_reducible exact r2 _ _ | with_reducible exact r3 _ _ | with_reducible exact r4 _ _))
  refine wpQuiet_nil ?_
  intro _ hw'
  obtain ⟨⟨dq, osq⟩, hw''⟩ := hw'
  have hb := below_regrown V dq osq
  subst hw''
  go_wp2_with fail
  go_ret
  exact ⟨rfl, hV.trans (hb.mono hV.size)⟩

theorem walk (b : Bt) (ko : b.ok) (i : Int) (n : Nat) (kn : n < 4294967296) (a : Int) (wa : (Lit.int .u32 a).wf = true) (w : World) : Calls Try.prog 3 #[.agg b.arr, .agg (hc i n), .int .u32 a] w fun e w' => e = .returned (.bool true) ∧ Below w.heap.size w w' := by
  have hb := bounds_u32 wa
  obtain ⟨wt, rfl⟩ : ∃ k : Nat, a = (k : Int) := ⟨a.toNat, by omega⟩
  exact walk_nat b ko i n wt (by omega) w

set_option maxRecDepth 100000 in
theorem lifted (os : Os) (started : os.Started) (H : Type) (enc : TypeId × Value → H) :
    ReturnsInHanded {} Try.checked os 3 .any (Rows.beatTellsSpec.pre6 enc Try.prog Try.f3 Rows.beatTellsRow.domain false) (Rows.beatTellsSpec.post enc Try.prog Try.f3 false true false false) := by
  refine returnsInHanded_of_change_sized (C := Try.checked) own started (by kernel_rfl) Try.func3
    (ChangeSpec.witness6 (enc := enc) (C := Try.checked) false ⟨#[], #[.agg Bt.zero.arr, .agg (hc 0 0), .int .u32 0], []⟩ 8 (by kernel_rfl) (by kernel_rfl) (by kernel_rfl) (by kernel_rfl)) ?_
  intro W base args ds gs before hval0 hW hcnd hsz0 _
  have hval : ∀ (j : Nat) t v, Try.f3.params[j]? = some t → args[j]? = some v → Value.okWide Try.prog W .any base t v := hval0
  have hsz : (DataW.weightsEach Try.prog (Try.f3.params.toList ++ Rows.beatTellsSpec.plain.varTypes Try.prog) (ds ++ gs)).all (· ≤ reachBytes) = true := hsz0
  have hW' := hW
  obtain ⟨p, q, hA0, hV, rfl, hfz, hnd⟩ := hW
  have hA : DataW.TrodAll enc Try.prog W 0 (fun _ => true) true Try.f3.params.toList args.toList ds p := hA0
  rw [Try.params3] at hA hval hsz

  obtain ⟨v0, vs0, d0, ds0, p0, q0, hargs, rfl, rfl, h0, r0⟩ := trodAll_cons hA
  obtain ⟨v1, vs1, d1, ds1, p1, q1, rfl, rfl, rfl, h1, r1⟩ := trodAll_cons r0
  obtain ⟨v2, vs2, d2, ds2, p2, q2, rfl, rfl, rfl, h2, r2⟩ := trodAll_cons r1
  obtain ⟨rfl, rfl, rfl⟩ := trodAll_nil r2
  obtain rfl : args = #[v0, v1, v2] := by cases args; simp_all
  obtain ⟨rfl, rfl⟩ := trodVars_none hV
  obtain ⟨b0, rfl, ko0⟩ := open_bt (by obtain ⟨cs, h1, _⟩ := okWide_struct Try.underlying25 (hval 0 25 v0 rfl rfl); exact ⟨cs, h1⟩) h0
  obtain ⟨i1, n1, rfl, kn1⟩ := open_hd (by obtain ⟨cs, h1, _⟩ := okWide_struct Try.underlying27 (hval 1 27 v1 rfl rfl); exact ⟨cs, h1⟩) h1
  obtain ⟨a2, rfl, rfl, rfl, w2⟩ := open_int Try.underlying22 (hval 2 22 v2 rfl rfl) h2
  have hA2 := hA0
  clear hA0 hval0 hsz0
  simp only [List.append_nil] at hW'
  refine (walk b0 ko0 i1 n1 kn1 a2 w2 W).mono fun e W' ⟨he, bel⟩ => ?_
  subst he
  exact ⟨_, rfl, _, _, _, [], _, [], hW', trodAll_mk1 (shut_bool Try.underlying4 _), (stays_all laidOut bel (by kernel_rfl) hA2), rfl, bel.frame _, fun h => by cases h⟩

theorem over : Rows.beatTellsRow.holds Try.pinned (OpenSpec.ofChange Rows.beatTellsSpec) :=
  OpenClaim.holds_of_wide 3 Try.f3 rfl rfl rfl rfl rfl rfl rfl ⟨rfl, rfl, rfl, rfl, rfl⟩ rfl rfl rfl rfl rfl (by kernel_rfl) Try.func3 (by kernel_rfl)
    (of_decide_eq_true (by kernel_rfl)) (by unfold Func.isWrapper; first | (rw [if_pos (by decide +kernel)]; kernel_rfl) | (rw [if_neg (by decide +kernel)]; exact ⟨rfl, rfl⟩))
    (fun os started H enc _ => lifted os started H enc)

end Go.Proofs.Yteodacgolpfodaa.beatTells
namespace Go.Proofs.Yteodacgolpfodaa

theorem beatTells_holds : Rows.BeatTellsSaid := beatTells.over
#print axioms beatTells_holds

end Go.Proofs.Yteodacgolpfodaa
