/-
  Whether any call may be, and its request, is as the document says: the law ParsePrints returns true for every input; its card.
  No condition beyond the form's own.
-/
import Derived.Test.YtiepdfngjfhadaaDoorRows
import Derived.Test.YtiepdfngjfhadaaDoorCards
import Derived.Test.YtiepdfngjfhadaaDoorTie
import Derived.Test.YtiepdfngjfhadaaDoorPaU
import Derived.Test.YtiepdfngjfhadaaDoorPaR
import Derived.WalkKit
import Derived.ProofKit
import Derived.OpenShut
import Derived.ShutString
import Derived.ChangeOld
import Derived.Below
import Derived.Lay
import Derived.Deep.DeepHandedRow
import Derived.Deep.DeepWitnessRowRef
import Derived.SevenTiedAt
namespace Go.Proofs.YtiepdfngjfhadaaDoor.parsePrints
open Go.Sort Go.ChangeShapes Go.WideShapes Go.ChangeAt Go.RowKit
open Go.ChangeMaps (open_string shut_string)
set_option linter.unusedVariables false
set_option linter.unusedSimpArgs false
set_option maxRecDepth 10000

theorem own : ownKnob Tryd.prog.godebug = none := by kernel_rfl

set_option maxHeartbeats 16000000 in
theorem walk (x : Ca) (xf : x.fit) (w : World) (hE : Te w) : Calls Tryd.prog 4 #[.agg x.arr] w fun e w' => e = .returned (.bool true) ∧ Below w.heap.size w w' := by
  have b1 := blk_new w x.arr 24
  have hB := below_box w (.cells x.arr 24)
  replace hE := hE.next hB
  have p1 := may_ok x xf
  have p2 := rmay_ok x
  have p3 := print_ok x xf
  have p4 := rprint_ok x xf
  go_enter Tryd.func4, Tryd.ntmps4
  go_upto_region 1 with fail
  try simp only [Act.put, List.setIfInBounds_toArray, List.set_cons_zero, List.set_cons_succ]
  generalize w.alloc (.cells x.arr 24) = W at b1 hB hE ⊢
  generalize w.heap.size = z at b1 ⊢
  have hEd : ∀ d os, Te (grow (redrawn W d) os) := fun d os => hE.next (below_regrown W d os)
  have bk := b1.regrown
  have r0 : ∀ d os, Calls Tryd.prog 10 #[] (grow (redrawn W d) os) fun e w'' => e = .returned (.bool true) ∧ ∃ p : Regrown, w'' = grow (redrawn W p.d) p.os := fun d os => Calls.regrown_of (fixed_ok _ (hEd d os))
  have r1 : ∀ d os, Calls Tryd.prog 11 #[.agg x.arr] (grow (redrawn W d) os) fun e w'' => e = .returned (.bool (mayC x)) ∧ ∃ p : Regrown, w'' = grow (redrawn W p.d) p.os := fun d os => Calls.regrown_of (p1 _ (hEd d os))
  have r2 : ∀ d os, Calls Tryd.prog 12 #[.agg x.arr] (grow (redrawn W d) os) fun e w'' => e = .returned (.bool (mayC x)) ∧ ∃ p : Regrown, w'' = grow (redrawn W p.d) p.os := fun d os => Calls.regrown_of (p2 _)
  have r3 : ∀ d os, Calls Tryd.prog 13 #[.agg x.arr] (grow (redrawn W d) os) fun e w'' => e = .returned (.string (strB (outC x))) ∧ ∃ p : Regrown, w'' = grow (redrawn W p.d) p.os := fun d os => Calls.regrown_of (p3 _ (hEd d os))
  have r4 : ∀ d os, Calls Tryd.prog 14 #[.agg x.arr] (grow (redrawn W d) os) fun e w'' => e = .returned (.string (strB (outC x))) ∧ ∃ p : Regrown, w'' = grow (redrawn W p.d) p.os := fun d os => Calls.regrown_of (p4 _)
  clear p1 p2 p3 p4 hE
  generalize mayC x = m at r1 r2
  generalize strB (outC x) = s at r3 r4
  have ql : ∀ w', (∃ p : Regrown, w' = grow (redrawn W p.d) p.os) → Blk z x.arr 24 w' := bk
  refine wp_region_quiet_below (by kernel_rfl) (by kernel_rfl) ?_
  repeat (first | (go_big_quiet_want; refine quiet_load rfl rfl ql Tryd.underlying24 rfl sizeCa ?_; simp only [Act.put, List.setIfInBounds_toArray, List.set_cons_zero, List.set_cons_succ]; go_big_quiet_on) | go_big_quiet_step (first | with_reducible exact r0 _ _ | with_reducible exact r1 _ _ | with_reducible exact r2 _ _ | with_reducible exact r3 _ _ | with_reducible exact r4 _ _))
  refine wpQuiet_nil ?_
  intro _ hw'
  obtain ⟨⟨dq, osq⟩, hw''⟩ := hw'
  have hb := below_regrown W dq osq
  replace hB := below_next hB hb
  subst hw''
  clear r0 r1 r2 r3 r4 ql bk hEd
  go_wp2_with fail
  go_ret
  exact ⟨rfl, hB⟩


theorem laid_met (os : Os) : laidMetH Tryd.prog Rows.parsePrintsRow.laid ((World.laidAll Tryd.prog os Rows.parsePrintsRow.laid).forCall (fun _ _ => 0) ⟨#[], #[.agg Ca.zero.arr], []⟩).memory := by
  rw [MakeChecks.laidMetH_plain _ _ _ (by kernel_rfl)]
  exact laidMet_laidAll _ (by kernel_rfl) (by kernel_rfl)
def wdata (H : Type) : List (DataW H) := [.agg [.lit (.int .i64 0), .lit (.int .u64 0), .lit (.int .u64 0), .lit (.int .i64 0), .lit (.int .i64 0), .lit (.int .i64 0), .lit (.string [])]]
theorem reads (os : Os) {H : Type} (enc : TypeId × Value → H) : ∃ places, DataW.whole enc Tryd.prog ((World.laidAll Tryd.prog os Rows.parsePrintsRow.laid).forCall (fun _ _ => 0) ⟨#[], #[.agg Ca.zero.arr], []⟩).memory Tryd.f4.params.toList (OpenSpec.ofChange Rows.parsePrintsSpec).vars false (#[.agg Ca.zero.arr] : Array Value).toList 8 = some (wdata H, [], places) :=
  ⟨[], by kernel_rfl⟩

set_option maxRecDepth 100000 in
theorem lifted (os : Os) (started : os.Started) (H : Type) (enc : TypeId × Value → H) (F : Stop.Interp) :
    ReturnsInHanded {} Tryd.checked os 4 .any ((OpenSpec.ofChange Rows.parsePrintsSpec).preRow enc Tryd.prog Tryd.f4 Rows.parsePrintsRow.domain false Rows.parsePrintsRow.laid) (((OpenSpec.ofChange Rows.parsePrintsSpec).at F).post enc Tryd.prog Tryd.f4 false true false false) := by
  obtain ⟨places, hx⟩ := reads os enc
  refine returnsInHanded_of_row (C := Tryd.checked) (s := OpenSpec.ofChange Rows.parsePrintsSpec) own started (by kernel_rfl) Tryd.func4
    (witness_row_atRef (enc := enc) (C := Tryd.checked) false (World.laidAll Tryd.prog os Rows.parsePrintsRow.laid) #[.agg Ca.zero.arr] (World.laidAll_os _ _ _) (by kernel_rfl) (by kernel_rfl) (by kernel_rfl)
      (OpenSpec.preRow_of_cond 8 hx (by kernel_rfl) (fun k hk => by cases hk) (by kernel_rfl) (laid_met os))) ?_
  intro W base args ds gs before hval0 hW hcnd hcond hsz0 hL0 hsh _
  have hL := hL0
  rw [MakeChecks.laidMetH_plain _ _ _ (by kernel_rfl)] at hL
  have hval : ∀ (j : Nat) t v, Tryd.f4.params[j]? = some t → args[j]? = some v → Value.okWide Tryd.prog W .any base t v := hval0
  have hsz : (DataW.weightsEach Tryd.prog (Tryd.f4.params.toList ++ Rows.parsePrintsSpec.plain.varTypes Tryd.prog) (ds ++ gs)).all (· ≤ reachBytes) = true := hsz0
  have hW' := hW
  obtain ⟨p, q, hA0, hV, rfl, hfz, hnd⟩ := hW
  have hA : DataW.TrodAll enc Tryd.prog W 0 (fun _ => true) true Tryd.f4.params.toList args.toList ds p := hA0
  rw [Tryd.params4] at hA hval hsz
  obtain ⟨v0, vs0, d0, ds0, p0, q0, hargs, rfl, rfl, h0, r0⟩ := trodAll_cons hA
  obtain ⟨rfl, rfl, rfl⟩ := trodAll_nil r0
  obtain rfl : args = #[v0] := by cases args; simp_all
  obtain ⟨rfl, rfl⟩ := trodVars_none hV
  obtain ⟨x0, rfl, kx0⟩ := open_Ca (by obtain ⟨cs, h1, _⟩ := okWide_struct Tryd.underlying24 (hval 0 24 v0 rfl rfl); exact ⟨cs, h1⟩) (fun n hn => of_decide_eq_true (List.all_eq_true.1 hsz _ (DataW.weights_mem_each (j := 0) rfl rfl n hn))) h0
  have hE : Te W := te_of hL
  have hA2 := hA0
  clear hA0 hval0 hsz0
  simp only [List.append_nil] at hW'
  refine (walk x0 kx0 W hE).mono fun e W' ⟨he, bel⟩ => ?_
  subst he
  exact ⟨_, rfl, _, _, _, [], _, [], hW', trodAll_mk1 (shut_bool Tryd.underlying4 _), (stays_all laidOut bel (by kernel_rfl) hA2), rfl, bel.frame _, fun h => by cases h⟩

theorem said : Rows.ParsePrintsSaid :=
  OpenClaim.holds_of_cond 4 Tryd.f4 rfl rfl rfl rfl rfl rfl rfl ⟨rfl, rfl, rfl, rfl, rfl⟩ rfl rfl rfl rfl rfl (by kernel_rfl) Tryd.func4 (by kernel_rfl)
    (of_decide_eq_true (by kernel_rfl)) (by unfold Func.isWrapper; first | (rw [if_pos (by decide +kernel)]; kernel_rfl) | (rw [if_neg (by decide +kernel)]; exact ⟨rfl, rfl⟩))
    (fun os started H enc _ F => by rw [OpenClaim.pre_eq_preRow]; exact lifted os started H enc F)

theorem plain (f : FuncId) (fn : Func) (hf : Tryd.pinned.checked.prog.funcNamed "congress/congresslaw21.ParsePrints" = some f) (hfn : Tryd.pinned.checked.prog.funcs[f]? = some fn) :
    true = Tryd.pinned.checked.prog.looks [] ∧ ∀ (j : Nat) t, fn.params[j]? = some t → Tryd.pinned.checked.prog.wantsStandIn t = false := by
  obtain rfl : f = 4 := Option.some.inj ((show Tryd.prog.funcNamed "congress/congresslaw21.ParsePrints" = some 4 by kernel_rfl).symm.trans hf) |>.symm
  obtain rfl : fn = Tryd.f4 := (Option.some.inj (Tryd.func4.symm.trans hfn)).symm
  refine ⟨by kernel_rfl, fun j t ht => ?_⟩
  rw [Tryd.params4] at ht
  have hm : t ∈ [24] := by simpa using Array.mem_of_getElem? ht
  have hall : ([24].all fun u => !Tryd.prog.wantsStandIn u) = true := by kernel_rfl
  have := List.all_eq_true.1 hall t hm
  show Tryd.prog.wantsStandIn t = false
  simpa using this

theorem card : Rows.ParsePrintsCardSaid :=
  Claim7.holds_tied_plain_at .later [] _ _ _ _ said (fun _ h => by cases h) (by kernel_rfl) (fun _ h => by cases h) parsePrints_row_tie rfl ⟨rfl, rfl⟩ (by kernel_rfl) rfl plain (by kernel_rfl)

end Go.Proofs.YtiepdfngjfhadaaDoor.parsePrints
namespace Go.Proofs.YtiepdfngjfhadaaDoor

theorem parsePrints_holds : Rows.ParsePrintsCardSaid := parsePrints.card
#print axioms parsePrints_holds

end Go.Proofs.YtiepdfngjfhadaaDoor
