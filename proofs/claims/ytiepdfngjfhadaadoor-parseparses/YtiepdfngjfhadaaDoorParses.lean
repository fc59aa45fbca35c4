/-
  What call any bytes say, or that they say none, is as the document says: the law ParseParses returns true for every input; its card.
  No condition beyond the form's own.
-/
import Derived.Test.YtiepdfngjfhadaaDoorRows
import Derived.Test.YtiepdfngjfhadaaDoorCards
import Derived.Test.YtiepdfngjfhadaaDoorTie
import Derived.Test.YtiepdfngjfhadaaDoorPaU
import Derived.Test.YtiepdfngjfhadaaDoorPaV
import Derived.WalkKit
import Derived.ProofKit
import Derived.OpenShut
import Derived.ShutString
import Derived.ChangeOld
import Derived.Below
import Derived.Lay
import Derived.Deep.DeepHandedRow
import Derived.Deep.DeepWitnessRowRef
import Derived.SevenTiedAt
namespace Go.Proofs.YtiepdfngjfhadaaDoor.parseParses
open Go.Sort Go.ChangeShapes Go.WideShapes Go.ChangeAt Go.RowKit
open Go.ChangeMaps (open_string shut_string)
set_option linter.unusedVariables false
set_option linter.unusedSimpArgs false
set_option maxRecDepth 10000

theorem own : ownKnob Tryd.prog.godebug = none := by kernel_rfl

set_option maxHeartbeats 16000000 in
theorem walk (s : ByteArray) (hs : s.size ≤ 140737488351232) (w : World) (hE : Te w) : Calls Tryd.prog 3 #[.string s] w fun e w' => e = .returned (.bool true) ∧ Below w.heap.size w w' := by
  go_enter Tryd.func3, Tryd.ntmps3
  have hB := Below.refl w.heap.size w
  go_wp2_with fail
  refine (parse_ok s (by omega) w hE).mono ?_
  rintro e w1 ⟨⟨o, ho, rfl⟩, hb⟩
  replace hE := hE.next hb
  replace hB := below_next hB hb
  clear hb
  obtain ⟨X, hX⟩ : ∃ X, o.getD Ca.zero = X := ⟨_, rfl⟩
  obtain ⟨k, hk⟩ : ∃ k : Int, (if o.isSome = true then 0 else 210) = k := ⟨_, rfl⟩
  rw [hX, hk]
  have b1 := blk_new w1 X.arr 24
  have hb := below_box w1 (.cells X.arr 24)
  replace hE := hE.next hb
  replace hB := below_next hB hb
  clear hb
  go_upto_region 2 with (first | refine alloc_zero zeroCa rfl rfl ?_ | refine store_new rfl 24 _ _ rfl (cells := X.arr) rfl rfl sizeCa rfl (Ca.arr_one _) ?_)
  try simp only [Act.put, List.setIfInBounds_toArray, List.set_cons_zero, List.set_cons_succ]
  generalize w1.alloc (Obj.cells X.arr 24) = W1 at b1 hE hB ⊢
  generalize w1.heap.size = z1 at b1 ⊢
  go_wp2_with fail
  refine (rparse_ok s (by omega) W1).mono ?_
  rintro e w2 ⟨⟨p, hp, rfl⟩, hb⟩
  obtain rfl := IsCall.one hp ho
  rw [hX, hk]
  clear hp ho hX hk
  replace b1 := b1.below hb
  replace hE := hE.next hb
  replace hB := below_next hB hb
  clear hb
  have b2 := blk_new w2 X.arr 24
  have hb := below_box w2 (.cells X.arr 24)
  replace b1 := b1.below hb
  replace hE := hE.next hb
  replace hB := below_next hB hb
  clear hb
  go_upto_region 3 with (first | refine alloc_zero zeroCa rfl rfl ?_ | refine store_new rfl 24 _ _ rfl (cells := X.arr) rfl rfl sizeCa rfl (Ca.arr_one _) ?_)
  try simp only [Act.put, List.setIfInBounds_toArray, List.set_cons_zero, List.set_cons_succ]
  generalize w2.alloc (Obj.cells X.arr 24) = W2 at b1 b2 hE hB ⊢
  generalize w2.heap.size = z2 at b2 ⊢
  go_wp2_with fail
  refine (fixed_ok W2 hE).mono ?_
  rintro e w3 ⟨rfl, hb⟩
  replace b1 := b1.below hb
  replace b2 := b2.below hb
  replace hB := below_next hB hb
  clear hb
  have nq := eqlCa X X true (Ca.same_self X)
  go_wp2_with (first | refine load_want (by rfl) 24 _ rfl b1 rfl Tryd.underlying24 rfl sizeCa ?_ | refine load_want (by rfl) 24 _ rfl b2 rfl Tryd.underlying24 rfl sizeCa ?_)
  go_ret
  exact ⟨rfl, hB⟩


theorem laid_met (os : Os) : laidMetH Tryd.prog Rows.parseParsesRow.laid ((World.laidAll Tryd.prog os Rows.parseParsesRow.laid).forCall (fun _ _ => 0) ⟨#[], #[.string ByteArray.empty], []⟩).memory := by
  rw [MakeChecks.laidMetH_plain _ _ _ (by kernel_rfl)]
  exact laidMet_laidAll _ (by kernel_rfl) (by kernel_rfl)
def wdata (H : Type) : List (DataW H) := [.lit (.string [])]
theorem reads (os : Os) {H : Type} (enc : TypeId × Value → H) : ∃ places, DataW.whole enc Tryd.prog ((World.laidAll Tryd.prog os Rows.parseParsesRow.laid).forCall (fun _ _ => 0) ⟨#[], #[.string ByteArray.empty], []⟩).memory Tryd.f3.params.toList (OpenSpec.ofChange Rows.parseParsesSpec).vars false (#[.string ByteArray.empty] : Array Value).toList 8 = some (wdata H, [], places) :=
  ⟨[], by kernel_rfl⟩

set_option maxRecDepth 100000 in
theorem lifted (os : Os) (started : os.Started) (H : Type) (enc : TypeId × Value → H) (F : Stop.Interp) :
    ReturnsInHanded {} Tryd.checked os 3 .any ((OpenSpec.ofChange Rows.parseParsesSpec).preRow enc Tryd.prog Tryd.f3 Rows.parseParsesRow.domain false Rows.parseParsesRow.laid) (((OpenSpec.ofChange Rows.parseParsesSpec).at F).post enc Tryd.prog Tryd.f3 false true false false) := by
  obtain ⟨places, hx⟩ := reads os enc
  refine returnsInHanded_of_row (C := Tryd.checked) (s := OpenSpec.ofChange Rows.parseParsesSpec) own started (by kernel_rfl) Tryd.func3
    (witness_row_atRef (enc := enc) (C := Tryd.checked) false (World.laidAll Tryd.prog os Rows.parseParsesRow.laid) #[.string ByteArray.empty] (World.laidAll_os _ _ _) (by kernel_rfl) (by kernel_rfl) (by kernel_rfl)
      (OpenSpec.preRow_of_cond 8 hx (by kernel_rfl) (fun k hk => by cases hk) (by kernel_rfl) (laid_met os))) ?_
  intro W base args ds gs before hval0 hW hcnd hcond hsz0 hL0 hsh _
  have hL := hL0
  rw [MakeChecks.laidMetH_plain _ _ _ (by kernel_rfl)] at hL
  have hval : ∀ (j : Nat) t v, Tryd.f3.params[j]? = some t → args[j]? = some v → Value.okWide Tryd.prog W .any base t v := hval0
  have hsz : (DataW.weightsEach Tryd.prog (Tryd.f3.params.toList ++ Rows.parseParsesSpec.plain.varTypes Tryd.prog) (ds ++ gs)).all (· ≤ reachBytes) = true := hsz0
  have hW' := hW
  obtain ⟨p, q, hA0, hV, rfl, hfz, hnd⟩ := hW
  have hA : DataW.TrodAll enc Tryd.prog W 0 (fun _ => true) true Tryd.f3.params.toList args.toList ds p := hA0
  rw [Tryd.params3] at hA hval hsz
  obtain ⟨v0, vs0, d0, ds0, p0, q0, hargs, rfl, rfl, h0, r0⟩ := trodAll_cons hA
  obtain ⟨rfl, rfl, rfl⟩ := trodAll_nil r0
  obtain rfl : args = #[v0] := by cases args; simp_all
  obtain ⟨rfl, rfl⟩ := trodVars_none hV
  obtain ⟨a0, rfl, rfl, rfl, w0⟩ := open_string Tryd.underlying9 (hval 0 9 v0 rfl rfl) h0
  have z0 : a0.size ≤ 140737488351232 := by
    have := (fun n hn => of_decide_eq_true (List.all_eq_true.1 hsz _ (DataW.weights_mem_each (j := 0) rfl rfl n hn))) a0.data.toList.length (by simp [DataW.weights])
    rw [Array.length_toList] at this
    exact this
  have hE : Te W := te_of hL
  have hA2 := hA0
  clear hA0 hval0 hsz0
  simp only [List.append_nil] at hW'
  refine (walk a0 z0 W hE).mono fun e W' ⟨he, bel⟩ => ?_
  subst he
  exact ⟨_, rfl, _, _, _, [], _, [], hW', trodAll_mk1 (shut_bool Tryd.underlying4 _), (stays_all laidOut bel (by kernel_rfl) hA2), rfl, bel.frame _, fun h => by cases h⟩

theorem said : Rows.ParseParsesSaid :=
  OpenClaim.holds_of_cond 3 Tryd.f3 rfl rfl rfl rfl rfl rfl rfl ⟨rfl, rfl, rfl, rfl, rfl⟩ rfl rfl rfl rfl rfl (by kernel_rfl) Tryd.func3 (by kernel_rfl)
    (of_decide_eq_true (by kernel_rfl)) (by unfold Func.isWrapper; first | (rw [if_pos (by decide +kernel)]; kernel_rfl) | (rw [if_neg (by decide +kernel)]; exact ⟨rfl, rfl⟩))
    (fun os started H enc _ F => by rw [OpenClaim.pre_eq_preRow]; exact lifted os started H enc F)

theorem plain (f : FuncId) (fn : Func) (hf : Tryd.pinned.checked.prog.funcNamed "congress/congresslaw21.ParseParses" = some f) (hfn : Tryd.pinned.checked.prog.funcs[f]? = some fn) :
    true = Tryd.pinned.checked.prog.looks [] ∧ ∀ (j : Nat) t, fn.params[j]? = some t → Tryd.pinned.checked.prog.wantsStandIn t = false := by
  obtain rfl : f = 3 := Option.some.inj ((show Tryd.prog.funcNamed "congress/congresslaw21.ParseParses" = some 3 by kernel_rfl).symm.trans hf) |>.symm
  obtain rfl : fn = Tryd.f3 := (Option.some.inj (Tryd.func3.symm.trans hfn)).symm
  refine ⟨by kernel_rfl, fun j t ht => ?_⟩
  rw [Tryd.params3] at ht
  have hm : t ∈ [9] := by simpa using Array.mem_of_getElem? ht
  have hall : ([9].all fun u => !Tryd.prog.wantsStandIn u) = true := by kernel_rfl
  have := List.all_eq_true.1 hall t hm
  show Tryd.prog.wantsStandIn t = false
  simpa using this

theorem card : Rows.ParseParsesCardSaid :=
  Claim7.holds_tied_plain_at .later [] _ _ _ _ said (fun _ h => by cases h) (by kernel_rfl) (fun _ h => by cases h) parseParses_row_tie rfl ⟨rfl, rfl⟩ (by kernel_rfl) rfl plain (by kernel_rfl)

end Go.Proofs.YtiepdfngjfhadaaDoor.parseParses
namespace Go.Proofs.YtiepdfngjfhadaaDoor

theorem parseParses_holds : Rows.ParseParsesCardSaid := parseParses.card
#print axioms parseParses_holds

end Go.Proofs.YtiepdfngjfhadaaDoor
