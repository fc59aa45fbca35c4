/-
  Ids stand in a total order: the law IdentOrder returns true for every input.
  No condition beyond the form's own.
-/
import Derived.Test.YtbgfhmnlnjlnhaaRows
import Derived.Test.YtbgfhmnlnjlnhaaImM
import Derived.WalkKit
import Derived.ProofKit
import Derived.OpenShut
import Derived.ShutString
import Derived.SizedLaws
import Derived.ChangeOld
import Derived.Below
namespace Go.Proofs.Ytbgfhmnlnjlnhaa.identOrder
open Go.Sort Go.ChangeShapes Go.WideShapes Go.ChangeAt Go.RowKit
open Go.ChangeMaps (open_string shut_string)
set_option linter.unusedVariables false
set_option maxRecDepth 10000

theorem own : ownKnob Try.prog.godebug = none := by kernel_rfl
theorem length_bytes (s : ByteArray) : s.data.toList.length = s.size := by rw [Array.length_toList]; rfl

set_option maxHeartbeats 4000000 in
theorem walk_at (a b c : Idn) (x y z x' : Int) (s : Bool) (hx : cmpId a b = x) (hy : cmpId b c = y) (hz : cmpId a c = z) (hx' : cmpId b a = x') (hs : Idn.same a b = s)
    (ok : (x = -1 ∧ x' = 1 ∧ s = false) ∨ (x = 1 ∧ x' = -1 ∧ s = false) ∨ (x = 0 ∧ x' = 0 ∧ s = true)) (ok2 : (x > 0 ∨ y > 0 ∨ (z ≤ 0 ∧ (z < 0 ∨ (x = 0 ∧ y = 0)))) ∧ (x < 0 ∨ y < 0 ∨ z ≥ 0)) (w : World) :
    Calls Try.prog 4 #[.agg a.arr, .agg b.arr, .agg c.arr] w fun e w' => e = .returned (.bool true) ∧ Below w.heap.size w w' := by
  obtain ⟨W, hW⟩ : ∃ W, ((w.alloc (.cells a.arr 24)).alloc (.cells b.arr 24)).alloc (.cells c.arr 24) = W := ⟨_, rfl⟩
  obtain ⟨a1, a2, a3, hB⟩ := three_blk hW
  have p0 : ∀ d os, Calls Try.prog 11 #[.agg a.arr, .agg b.arr] (grow (redrawn W d) os) fun e w'' => e = .returned (.int .i64 x) ∧ ∃ p : Regrown, w'' = grow (redrawn W p.d) p.os := fun d os => Calls.regrown_of (by rw [← hx]; exact cmp_ok a b _)
  have p1 : ∀ d os, Calls Try.prog 11 #[.agg b.arr, .agg c.arr] (grow (redrawn W d) os) fun e w'' => e = .returned (.int .i64 y) ∧ ∃ p : Regrown, w'' = grow (redrawn W p.d) p.os := fun d os => Calls.regrown_of (by rw [← hy]; exact cmp_ok b c _)
  have p2 : ∀ d os, Calls Try.prog 11 #[.agg a.arr, .agg c.arr] (grow (redrawn W d) os) fun e w'' => e = .returned (.int .i64 z) ∧ ∃ p : Regrown, w'' = grow (redrawn W p.d) p.os := fun d os => Calls.regrown_of (by rw [← hz]; exact cmp_ok a c _)
  have q0 := a1.regrown
  have q1 := a2.regrown
  have q2 := a3.regrown
  have hba := cmp_ok b a
  have haa := cmp_ok a a
  rw [hx'] at hba
  rw [cmpId_self] at haa
  have keq := eqlIdn a b s hs
  clear hx hy hz hx' hs
  go_enter Try.func4, Try.ntmps4
  go_wp2_with fail
  refine wp_region_quiet_below (by kernel_rfl) (by kernel_rfl) ?_
  repeat (first
    | (go_big_quiet_want; refine quiet_load rfl rfl q0 Try.underlying24 rfl (Idn.size _) ?_; simp only [Act.put, List.setIfInBounds_toArray, List.set_cons_zero, List.set_cons_succ]; go_big_quiet_on)
    | (go_big_quiet_want; refine quiet_load rfl rfl q1 Try.underlying24 rfl (Idn.size _) ?_; simp only [Act.put, List.setIfInBounds_toArray, List.set_cons_zero, List.set_cons_succ]; go_big_quiet_on)
    | (go_big_quiet_want; refine quiet_load rfl rfl q2 Try.underlying24 rfl (Idn.size _) ?_; simp only [Act.put, List.setIfInBounds_toArray, List.set_cons_zero, List.set_cons_succ]; go_big_quiet_on)
    | go_big_quiet_step (first | with_reducible exact p0 _ _ | with_reducible exact p1 _ _ | with_reducible exact p2 _ _))
  refine wpQuiet_nil ?_
  intro _ hw'
  obtain ⟨⟨dq, osq⟩, hw''⟩ := hw'
  have hb := below_regrown W dq osq
  subst hw''
  generalize grow (redrawn W dq) osq = w1 at hb ⊢
  have a1 := a1.below hb
  have a2 := a2.below hb
  have hB := hB.trans (hb.mono hB.size)
  clear hb p0 p1 p2 q0 q1 q2 a3 hW
  go_wp2_with fail
  refine (fixed_ok _).mono ?_
  rintro r w2 ⟨rfl, hb⟩
  have a1 := a1.below hb
  have a2 := a2.below hb
  have hB := hB.trans (hb.mono hB.size)
  clear hb
  rcases ok with ⟨rfl, rfl, rfl⟩ | ⟨rfl, rfl, rfl⟩ | ⟨rfl, rfl, rfl⟩
  · go_wp2_with (first | refine load_want rfl 24 _ rfl a1 rfl Try.underlying24 rfl (Idn.size _) ?_ | refine load_want rfl 24 _ rfl a2 rfl Try.underlying24 rfl (Idn.size _) ?_)
    refine (hba _).mono ?_
    rintro r w3 ⟨rfl, hb⟩
    have a1 := a1.below hb
    have a2 := a2.below hb
    have hB := hB.trans (hb.mono hB.size)
    clear hb
    go_wp2_with (first | refine load_want rfl 24 _ rfl a1 rfl Try.underlying24 rfl (Idn.size _) ?_ | refine load_want rfl 24 _ rfl a2 rfl Try.underlying24 rfl (Idn.size _) ?_)
    refine (haa _).mono ?_
    rintro r w4 ⟨rfl, hb⟩
    have hB := hB.trans (hb.mono hB.size)
    clear hb a1 a2 haa hba keq
    go_wp2_with fail
    all_goals first
      | (exfalso; omega)
      | (go_ret; exact ⟨rfl, hB⟩)
      | (go_ret; refine ⟨?_, hB⟩; simp; omega)
  · go_wp2_with (first | refine load_want rfl 24 _ rfl a1 rfl Try.underlying24 rfl (Idn.size _) ?_ | refine load_want rfl 24 _ rfl a2 rfl Try.underlying24 rfl (Idn.size _) ?_)
    refine (hba _).mono ?_
    rintro r w3 ⟨rfl, hb⟩
    have a1 := a1.below hb
    have a2 := a2.below hb
    have hB := hB.trans (hb.mono hB.size)
    clear hb
    go_wp2_with (first | refine load_want rfl 24 _ rfl a1 rfl Try.underlying24 rfl (Idn.size _) ?_ | refine load_want rfl 24 _ rfl a2 rfl Try.underlying24 rfl (Idn.size _) ?_)
    refine (haa _).mono ?_
    rintro r w4 ⟨rfl, hb⟩
    have hB := hB.trans (hb.mono hB.size)
    clear hb a1 a2 haa hba keq
    go_wp2_with fail
    all_goals first
      | (exfalso; omega)
      | (go_ret; exact ⟨rfl, hB⟩)
      | (go_ret; refine ⟨?_, hB⟩; simp; omega)
  · go_wp2_with (first | refine load_want rfl 24 _ rfl a1 rfl Try.underlying24 rfl (Idn.size _) ?_ | refine load_want rfl 24 _ rfl a2 rfl Try.underlying24 rfl (Idn.size _) ?_)
    refine (hba _).mono ?_
    rintro r w3 ⟨rfl, hb⟩
    have a1 := a1.below hb
    have a2 := a2.below hb
    have hB := hB.trans (hb.mono hB.size)
    clear hb
    go_wp2_with (first | refine load_want rfl 24 _ rfl a1 rfl Try.underlying24 rfl (Idn.size _) ?_ | refine load_want rfl 24 _ rfl a2 rfl Try.underlying24 rfl (Idn.size _) ?_)
    refine (haa _).mono ?_
    rintro r w4 ⟨rfl, hb⟩
    have hB := hB.trans (hb.mono hB.size)
    clear hb a1 a2 haa hba keq
    go_wp2_with fail
    all_goals first
      | (exfalso; omega)
      | (go_ret; exact ⟨rfl, hB⟩)
      | (go_ret; refine ⟨?_, hB⟩; simp; omega)

theorem walk (a b c : Idn) (w : World) : Calls Try.prog 4 #[.agg a.arr, .agg b.arr, .agg c.arr] w fun e w' => e = .returned (.bool true) ∧ Below w.heap.size w w' := by
  have h1 := cmpId_two a b
  have h2 := cmpId_three a b c
  refine walk_at a b c _ _ _ _ _ rfl rfl rfl rfl rfl h1 ?_ w
  have h3 := cmpId_two b c
  have h4 := cmpId_two a c
  omega

set_option maxRecDepth 100000 in
theorem lifted (os : Os) (started : os.Started) (H : Type) (enc : TypeId × Value → H) :
    ReturnsInHanded {} Try.checked os 4 .any (Rows.identOrderSpec.pre6 enc Try.prog Try.f4 Rows.identOrderRow.domain false) (Rows.identOrderSpec.post enc Try.prog Try.f4 false true false false) := by
  refine returnsInHanded_of_change_sized (C := Try.checked) own started (by kernel_rfl) Try.func4
    (ChangeSpec.witness6 (enc := enc) (C := Try.checked) false ⟨#[], #[.agg Idn.zero.arr, .agg Idn.zero.arr, .agg Idn.zero.arr], []⟩ 8 (by kernel_rfl) (by kernel_rfl) (by kernel_rfl) (by kernel_rfl)) ?_
  intro W base args ds gs before hval0 hW hcnd hsz0 _
  have hval : ∀ (j : Nat) t v, Try.f4.params[j]? = some t → args[j]? = some v → Value.okWide Try.prog W .any base t v := hval0
  have hsz : (DataW.weightsEach Try.prog (Try.f4.params.toList ++ Rows.identOrderSpec.plain.varTypes Try.prog) (ds ++ gs)).all (· ≤ reachBytes) = true := hsz0
  have hW' := hW
  obtain ⟨p, q, hA0, hV, rfl, hfz, hnd⟩ := hW
  have hA : DataW.TrodAll enc Try.prog W 0 (fun _ => true) true Try.f4.params.toList args.toList ds p := hA0
  rw [Try.params4] at hA hval hsz

  obtain ⟨v0, vs0, d0, ds0, p0, q0, hargs, rfl, rfl, h0, r0⟩ := trodAll_cons hA
  obtain ⟨v1, vs1, d1, ds1, p1, q1, rfl, rfl, rfl, h1, r1⟩ := trodAll_cons r0
  obtain ⟨v2, vs2, d2, ds2, p2, q2, rfl, rfl, rfl, h2, r2⟩ := trodAll_cons r1
  obtain ⟨rfl, rfl, rfl⟩ := trodAll_nil r2
  obtain rfl : args = #[v0, v1, v2] := by cases args; simp_all
  obtain ⟨rfl, rfl⟩ := trodVars_none hV
  obtain ⟨x0, rfl⟩ := open_id (by obtain ⟨cs, h1, _⟩ := okWide_struct Try.underlying24 (hval 0 24 v0 rfl rfl); exact ⟨cs, h1⟩) h0
  obtain ⟨x1, rfl⟩ := open_id (by obtain ⟨cs, h1, _⟩ := okWide_struct Try.underlying24 (hval 1 24 v1 rfl rfl); exact ⟨cs, h1⟩) h1
  obtain ⟨x2, rfl⟩ := open_id (by obtain ⟨cs, h1, _⟩ := okWide_struct Try.underlying24 (hval 2 24 v2 rfl rfl); exact ⟨cs, h1⟩) h2
  have hA2 := hA0
  clear hA0 hval0 hsz0
  simp only [List.append_nil] at hW'
  refine (walk x0 x1 x2 W).mono fun e W' ⟨he, bel⟩ => ?_
  subst he
  exact ⟨_, rfl, _, _, _, [], _, [], hW', trodAll_mk1 (shut_bool Try.underlying4 _), (stays_all laidOut bel (by kernel_rfl) hA2), rfl, bel.frame _, fun h => by cases h⟩

theorem over : Rows.identOrderRow.holds Try.pinned (OpenSpec.ofChange Rows.identOrderSpec) :=
  OpenClaim.holds_of_wide 4 Try.f4 rfl rfl rfl rfl rfl rfl rfl ⟨rfl, rfl, rfl, rfl, rfl⟩ rfl rfl rfl rfl rfl (by kernel_rfl) Try.func4 (by kernel_rfl)
    (of_decide_eq_true (by kernel_rfl)) (by unfold Func.isWrapper; first | (rw [if_pos (by decide +kernel)]; kernel_rfl) | (rw [if_neg (by decide +kernel)]; exact ⟨rfl, rfl⟩))
    (fun os started H enc _ => lifted os started H enc)

end Go.Proofs.Ytbgfhmnlnjlnhaa.identOrder
namespace Go.Proofs.Ytbgfhmnlnjlnhaa

theorem identOrder_holds : Rows.IdentOrderSaid := identOrder.over
#print axioms identOrder_holds

end Go.Proofs.Ytbgfhmnlnjlnhaa
