/-
  What is known of a daemon does not fall: the law GatherRises returns true for every input.
  No condition beyond the form's own.
-/
import Derived.Test.YtbmhfnallpcmpaaRows
import Derived.Test.YtbmhfnallpcmpaaGaX
import Derived.Test.YtbmhfnallpcmpaaGaB
import Derived.Test.YtbmhfnallpcmpaaGaN
import Derived.WalkKit
import Derived.ProofKit
import Derived.OpenShut
import Derived.ShutString
import Derived.SizedLaws
import Derived.ChangeOld
import Derived.Below
namespace Go.Proofs.Ytbmhfnallpcmpaa.gatherRises
open Go.Sort Go.ChangeShapes Go.WideShapes Go.ChangeAt Go.RowKit
open Go.ChangeMaps (open_string shut_string)
set_option linter.unusedVariables false
set_option maxRecDepth 10000

theorem own : ownKnob Try.prog.godebug = none := by kernel_rfl
theorem length_bytes (s : ByteArray) : s.data.toList.length = s.size := by rw [Array.length_toList]; rfl

theorem skip_not {P : Program} {ops : Array Oper} {rest : List Oper} {o : Oper} {a : Act} {w : World} {Q : Exit → Act → World → Prop} (hw : Region.wanted o (yielded ops a.tmps) = false) (h : wpList P ops Q rest (a.put o.dst undef) w) : wpList P ops Q (o :: rest) a w :=
  wpList_step fun _ hK => by rw [if_neg (by rw [hw]; simp)]; exact hK _ _ h

theorem pe_cut (x : Pe) (i : Nat) (h : i < 8) : x.arr[7 + i]? = some (.int .u32 (x.cut i : Int)) := by
  obtain rfl | rfl | rfl | rfl | rfl | rfl | rfl | rfl : i = 0 ∨ i = 1 ∨ i = 2 ∨ i = 3 ∨ i = 4 ∨ i = 5 ∨ i = 6 ∨ i = 7 := by omega
  all_goals rfl

set_option maxHeartbeats 8000000 in
theorem walk (x : Pe) (p : Pk) (w : World) : Calls Try.prog 5 #[.agg x.arr, .agg (pkc p)] w fun e w' => e = .returned (.bool true) ∧ Below w.heap.size w w' := by
  have p0 := update_ok x p
  have hr := upd_rises x (told p)
  rw [show (told p).inc = p.n 1 from rfl] at hr
  generalize updP x (told p) = a at p0 hr
  obtain ⟨a0, a1, hB⟩ := two_blk (T0 := 32) (T1 := 43) (C0 := x.arr) (C1 := pkc p) (w := w) rfl
  have pp := rcmp_ok a.pr x.pr
  have pc := rcmp_ok a.conf x.conf
  go_enter Try.func5, Try.ntmps5
  go_upto_region 1 with fail
  generalize (w.alloc (Obj.cells x.arr 32)).alloc (Obj.cells (pkc p) 43) = W at a0 a1 hB ⊢
  go_wp2_with (first | refine load_blk rfl 32 _ rfl a0 rfl Try.underlying32 rfl sizePe ?_ | refine load_blk rfl 43 _ rfl a1 rfl Try.underlying43 rfl sizePk ?_)
  refine (p0 _).mono ?_
  rintro r w1 ⟨rfl, hb⟩
  replace a0 := a0.below hb
  replace a1 := a1.below hb
  replace hB := hB.trans (hb.mono hB.size)
  clear hb p0
  have hb := below_box w1 (.cells a.arr 32)
  have a3 := blk_new w1 a.arr 32
  go_upto_region 2 with (first | refine alloc_zero zeroPe rfl rfl ?_ | refine store_new rfl 32 _ _ rfl (cells := a.arr) rfl rfl sizePe rfl (Pe.arr_one _) ?_)
  try simp only [Act.put, List.setIfInBounds_toArray, List.set_cons_zero, List.set_cons_succ]
  generalize w1.alloc (Obj.cells a.arr 32) = W2 at a3 hb ⊢
  replace a0 := a0.below hb
  replace a1 := a1.below hb
  replace hB := hB.trans (hb.mono hB.size)
  clear hb 
  generalize w1.heap.size = V at a3 ⊢
  go_wp2_with fail
  refine (fixed_ok _).mono ?_
  rintro r w2 ⟨rfl, hb⟩
  replace a0 := a0.below hb
  replace a1 := a1.below hb
  replace a3 := a3.below hb
  replace hB := hB.trans (hb.mono hB.size)
  clear hb 
  have q0 := a0.cell 0 (.int .u32 (x.inc : Int)) rfl
  have q1 := a1.cell 1 (.int .u32 (p.n 1 : Int)) rfl
  have q3 := a3.cell 0 (.int .u32 (a.inc : Int)) rfl
  rcases hr with ⟨hi, he⟩ | ⟨hi, hp⟩ | ⟨hi, hp, hc, hrd⟩ | ⟨hi, hp, hc, hct, hrd⟩
  · have i0 : ¬ (a.inc : Int) < (x.inc : Int) := by omega
    have i1 : (x.inc : Int) < (a.inc : Int) := by omega
    have i2 : (a.inc : Int) = (p.n 1 : Int) := by omega
    rw [← i2] at q1
    clear hi he pp pc a0 a1 a3 i2
    go_wp2_with fail
    go_ret
    exact ⟨rfl, hB⟩
  all_goals have i0 : ¬ (a.inc : Int) < (x.inc : Int) := by omega
  all_goals have i1 : ¬ (x.inc : Int) < (a.inc : Int) := by omega
  all_goals rw [hp] at pp
  all_goals clear hp
  · clear hi pc
    go_upto_region 6 with fail
    clear i0 i1 q0 q1 q3
    go_wp2_with (first | refine load_part rfl 27 _ rfl (o := 4) a3 rfl a.pr.vals a.p_pr Try.underlying27 rfl sizeIdn ?_ | refine load_part rfl 27 _ rfl (o := 4) a0 rfl x.pr.vals x.p_pr Try.underlying27 rfl sizeIdn ?_)
    refine (pp _).mono ?_
    rintro r w3 ⟨rfl, hb⟩
    replace a0 := a0.below hb
    replace a1 := a1.below hb
    replace a3 := a3.below hb
    replace hB := hB.trans (hb.mono hB.size)
    clear hb 
    go_wp2_with (first | refine load_part rfl 27 _ rfl (o := 4) a3 rfl a.pr.vals a.p_pr Try.underlying27 rfl sizeIdn ?_ | refine load_part rfl 27 _ rfl (o := 4) a0 rfl x.pr.vals x.p_pr Try.underlying27 rfl sizeIdn ?_)
    refine (pp _).mono ?_
    rintro r w4 ⟨rfl, hb⟩
    replace a0 := a0.below hb
    replace a1 := a1.below hb
    replace a3 := a3.below hb
    replace hB := hB.trans (hb.mono hB.size)
    clear hb pp
    go_wp2_with fail
    go_ret
    exact ⟨rfl, hB⟩
  all_goals rw [hc] at pc
  all_goals clear hc hi
  · go_upto_region 6 with fail
    clear i0 i1 q0 q1 q3
    go_wp2_with (first | refine load_part rfl 27 _ rfl (o := 4) a3 rfl a.pr.vals a.p_pr Try.underlying27 rfl sizeIdn ?_ | refine load_part rfl 27 _ rfl (o := 4) a0 rfl x.pr.vals x.p_pr Try.underlying27 rfl sizeIdn ?_)
    refine (pp _).mono ?_
    rintro r w3 ⟨rfl, hb⟩
    replace a0 := a0.below hb
    replace a1 := a1.below hb
    replace a3 := a3.below hb
    replace hB := hB.trans (hb.mono hB.size)
    clear hb pp
    go_wp2_with (first | refine load_part rfl 27 _ rfl (o := 1) a3 rfl a.conf.vals a.p_conf Try.underlying27 rfl sizeIdn ?_ | refine load_part rfl 27 _ rfl (o := 1) a0 rfl x.conf.vals x.p_conf Try.underlying27 rfl sizeIdn ?_)
    refine (pc _).mono ?_
    rintro r w4 ⟨rfl, hb⟩
    replace a0 := a0.below hb
    replace a1 := a1.below hb
    replace a3 := a3.below hb
    replace hB := hB.trans (hb.mono hB.size)
    clear hb 
    go_upto_region 9 with fail
    go_wp2_with (first | refine load_part rfl 27 _ rfl (o := 1) a3 rfl a.conf.vals a.p_conf Try.underlying27 rfl sizeIdn ?_ | refine load_part rfl 27 _ rfl (o := 1) a0 rfl x.conf.vals x.p_conf Try.underlying27 rfl sizeIdn ?_)
    refine (pc _).mono ?_
    rintro r w5 ⟨rfl, hb⟩
    replace a0 := a0.below hb
    replace a1 := a1.below hb
    replace a3 := a3.below hb
    replace hB := hB.trans (hb.mono hB.size)
    clear hb pc
    cases ha : a.rdy with
    | true =>
      have q3 := a3.cell 15 (.bool a.rdy) rfl
      rw [ha] at q3
      clear ha hrd
      go_wp2_with (first | (with_reducible refine skip_not ?_ ?_; (focus (simp [Region.wanted, yielded]; done)); try simp only [Act.put, List.setIfInBounds_toArray, List.set_cons_zero, List.set_cons_succ]))
      go_ret
      exact ⟨rfl, hB⟩
    | false =>
      have hx : x.rdy = false := by rw [ha] at hrd; simpa using hrd
      have q3 := a3.cell 15 (.bool a.rdy) rfl
      have q0 := a0.cell 15 (.bool x.rdy) rfl
      rw [ha] at q3
      rw [hx] at q0
      clear ha hx hrd
      go_wp2_with (first | (with_reducible refine skip_not ?_ ?_; (focus (simp [Region.wanted, yielded]; done)); try simp only [Act.put, List.setIfInBounds_toArray, List.set_cons_zero, List.set_cons_succ]))
      go_ret
      exact ⟨rfl, hB⟩
  · go_upto_region 6 with fail
    clear i0 i1 q0 q1 q3
    go_wp2_with (first | refine load_part rfl 27 _ rfl (o := 4) a3 rfl a.pr.vals a.p_pr Try.underlying27 rfl sizeIdn ?_ | refine load_part rfl 27 _ rfl (o := 4) a0 rfl x.pr.vals x.p_pr Try.underlying27 rfl sizeIdn ?_)
    refine (pp _).mono ?_
    rintro r w3 ⟨rfl, hb⟩
    replace a0 := a0.below hb
    replace a1 := a1.below hb
    replace a3 := a3.below hb
    replace hB := hB.trans (hb.mono hB.size)
    clear hb pp
    go_wp2_with (first | refine load_part rfl 27 _ rfl (o := 1) a3 rfl a.conf.vals a.p_conf Try.underlying27 rfl sizeIdn ?_ | refine load_part rfl 27 _ rfl (o := 1) a0 rfl x.conf.vals x.p_conf Try.underlying27 rfl sizeIdn ?_)
    refine (pc _).mono ?_
    rintro r w4 ⟨rfl, hb⟩
    replace a0 := a0.below hb
    replace a1 := a1.below hb
    replace a3 := a3.below hb
    replace hB := hB.trans (hb.mono hB.size)
    clear hb pc
    go_wp2_with fail
    go_loopw [6] (fun iv wr => ∃ i : Nat, i ≤ 8 ∧ iv = .int .i64 i ∧ Below w4.heap.size w4 wr) (fun iv _ => 8 - (intOf iv).toNat)
    case atStart => exact ⟨0, by omega, rfl, Below.refl _ _⟩
    case round =>
      obtain ⟨i, hi8, rfl, hb⟩ := hrel
      by_cases hi : i < 8
      · have j0 : (i : Int) < 8 := by omega
        have j1 : (0 : Int) ≤ (i : Int) := by omega
        have b0 := a0.below hb
        have b3 := a3.below hb
        have hle := hct i
        have k1 : decide ((a.cut i : Int) < (x.cut i : Int)) = false := by simp; omega
        have k2 : decide (a.cut i < x.cut i) = false := by simp; omega
        have hC0 := hb.drew
        clear hle hct hrd a0 a1 a3
        go_upto_region 13 with fail
        refine wp_region_held_drew (S := fun w' => Blk w.heap.size x.arr 32 w' ∧ Blk V a.arr 32 w') (by kernel_rfl) ⟨b0.drew, b3.drew⟩ (fun hHeld => ?_)
        refine wpAnyH_take (i := 0) (v := ?v1) rfl (by kernel_rfl) (by kernel_rfl) (by kernel_rfl) (fun _ _ _ h => h) (Or.inl ⟨by rfl, ?hy1⟩) hHeld ?rest1
        case hy1 => (intro w hSw; clear hSw; go_simp; try with_reducible rfl)
        try simp only [List.getElem_toArray]
        try simp only [List.getElem_cons_succ]
        try simp only [List.getElem_cons_zero]
        try simp only [Act.put]
        try simp only [List.setIfInBounds_toArray]
        try simp only [List.set_cons_succ]
        try simp only [List.set_cons_zero]
        refine wpAnyH_take (i := 1) (v := ?v2) rfl (by kernel_rfl) (by kernel_rfl) (by kernel_rfl) (fun _ _ _ h => h) (Or.inl ⟨by rfl, ?hy2⟩) hHeld ?rest2
        case hy2 => (intro w hSw; clear hSw; go_simp; try with_reducible rfl)
        try simp only [List.getElem_toArray]
        try simp only [List.getElem_cons_succ]
        try simp only [List.getElem_cons_zero]
        try simp only [Act.put]
        try simp only [List.setIfInBounds_toArray]
        try simp only [List.set_cons_succ]
        try simp only [List.set_cons_zero]
        refine wpAnyH_take (i := 2) (v := ?v3) rfl (by kernel_rfl) (by kernel_rfl) (by kernel_rfl) (fun _ _ _ h => h) (Or.inl ⟨by rfl, ?hy3⟩) hHeld ?rest3
        case hy3 => (intro w hSw; clear hSw; go_simp; try with_reducible rfl)
        try simp only [List.getElem_toArray]
        try simp only [List.getElem_cons_succ]
        try simp only [List.getElem_cons_zero]
        try simp only [Act.put]
        try simp only [List.setIfInBounds_toArray]
        try simp only [List.set_cons_succ]
        try simp only [List.set_cons_zero]
        refine wpAnyH_take (i := 3) (v := ?v4) rfl (by kernel_rfl) (by kernel_rfl) (by kernel_rfl) (fun _ _ _ h => h) (Or.inl ⟨by rfl, ?hy4⟩) hHeld ?rest4
        case hy4 => (intro w hSw; have hc := hSw.2.cell (7 + i) _ (pe_cut a i hi); clear hSw; go_simp; try with_reducible rfl)
        try simp only [List.getElem_toArray]
        try simp only [List.getElem_cons_succ]
        try simp only [List.getElem_cons_zero]
        try simp only [Act.put]
        try simp only [List.setIfInBounds_toArray]
        try simp only [List.set_cons_succ]
        try simp only [List.set_cons_zero]
        refine wpAnyH_take (i := 4) (v := ?v5) rfl (by kernel_rfl) (by kernel_rfl) (by kernel_rfl) (fun _ _ _ h => h) (Or.inl ⟨by rfl, ?hy5⟩) hHeld ?rest5
        case hy5 => (intro w hSw; clear hSw; go_simp; try with_reducible rfl)
        try simp only [List.getElem_toArray]
        try simp only [List.getElem_cons_succ]
        try simp only [List.getElem_cons_zero]
        try simp only [Act.put]
        try simp only [List.setIfInBounds_toArray]
        try simp only [List.set_cons_succ]
        try simp only [List.set_cons_zero]
        refine wpAnyH_take (i := 5) (v := ?v6) rfl (by kernel_rfl) (by kernel_rfl) (by kernel_rfl) (fun _ _ _ h => h) (Or.inl ⟨by rfl, ?hy6⟩) hHeld ?rest6
        case hy6 => (intro w hSw; clear hSw; go_simp; try with_reducible rfl)
        try simp only [List.getElem_toArray]
        try simp only [List.getElem_cons_succ]
        try simp only [List.getElem_cons_zero]
        try simp only [Act.put]
        try simp only [List.setIfInBounds_toArray]
        try simp only [List.set_cons_succ]
        try simp only [List.set_cons_zero]
        refine wpAnyH_take (i := 6) (v := ?v7) rfl (by kernel_rfl) (by kernel_rfl) (by kernel_rfl) (fun _ _ _ h => h) (Or.inl ⟨by rfl, ?hy7⟩) hHeld ?rest7
        case hy7 => (intro w hSw; clear hSw; go_simp; try with_reducible rfl)
        try simp only [List.getElem_toArray]
        try simp only [List.getElem_cons_succ]
        try simp only [List.getElem_cons_zero]
        try simp only [Act.put]
        try simp only [List.setIfInBounds_toArray]
        try simp only [List.set_cons_succ]
        try simp only [List.set_cons_zero]
        refine wpAnyH_take (i := 7) (v := ?v8) rfl (by kernel_rfl) (by kernel_rfl) (by kernel_rfl) (fun _ _ _ h => h) (Or.inl ⟨by rfl, ?hy8⟩) hHeld ?rest8
        case hy8 => (intro w hSw; have hc := hSw.1.cell (7 + i) _ (pe_cut x i hi); clear hSw; go_simp; try with_reducible rfl)
        try simp only [List.getElem_toArray]
        try simp only [List.getElem_cons_succ]
        try simp only [List.getElem_cons_zero]
        try simp only [Act.put]
        try simp only [List.setIfInBounds_toArray]
        try simp only [List.set_cons_succ]
        try simp only [List.set_cons_zero]
        refine wpAnyH_take (i := 8) (v := ?v9) rfl (by kernel_rfl) (by kernel_rfl) (by kernel_rfl) (fun _ _ _ h => h) (Or.inl ⟨by rfl, ?hy9⟩) hHeld ?rest9
        case hy9 => (intro w hSw; clear hSw; go_simp; try with_reducible rfl)
        try simp only [List.getElem_toArray]
        try simp only [List.getElem_cons_succ]
        try simp only [List.getElem_cons_zero]
        try simp only [Act.put]
        try simp only [List.setIfInBounds_toArray]
        try simp only [List.set_cons_succ]
        try simp only [List.set_cons_zero]
        refine wpAnyH_done (by kernel_rfl) ?_ _
        clear hHeld
        go_wp2_with fail
        exact ⟨⟨i + 1, by omega, by go_num, hC0⟩, by simp [intOf]; omega⟩
      · obtain rfl : i = 8 := by omega
        replace a0 := a0.below hb
        replace a3 := a3.below hb
        replace hB := hB.trans (hb.mono hB.size)
        clear hb hct a1
        go_upto_region 15 with fail
        cases ha : a.rdy with
        | true =>
          have q3 := a3.cell 15 (.bool a.rdy) rfl
          rw [ha] at q3
          clear ha hrd
          go_wp2_with (first | (with_reducible refine skip_not ?_ ?_; (focus (simp [Region.wanted, yielded]; done)); try simp only [Act.put, List.setIfInBounds_toArray, List.set_cons_zero, List.set_cons_succ]))
          go_ret
          exact ⟨rfl, hB⟩
        | false =>
          have hx : x.rdy = false := by rw [ha] at hrd; simpa using hrd
          have q3 := a3.cell 15 (.bool a.rdy) rfl
          have q0 := a0.cell 15 (.bool x.rdy) rfl
          rw [ha] at q3
          rw [hx] at q0
          clear ha hx hrd
          go_wp2_with (first | (with_reducible refine skip_not ?_ ?_; (focus (simp [Region.wanted, yielded]; done)); try simp only [Act.put, List.setIfInBounds_toArray, List.set_cons_zero, List.set_cons_succ]))
          go_ret
          exact ⟨rfl, hB⟩

set_option maxRecDepth 100000 in
theorem lifted (os : Go.Os) (started : os.Started) (H : Type) (enc : TypeId × Value → H) :
    ReturnsInHanded {} Try.checked os 5 .any (Rows.gatherRisesSpec.pre6 enc Try.prog Try.f5 Rows.gatherRisesRow.domain false) (Rows.gatherRisesSpec.post enc Try.prog Try.f5 false true false false) := by
  refine returnsInHanded_of_change_sized (C := Try.checked) own started (by kernel_rfl) Try.func5
    (ChangeSpec.witness6 (enc := enc) (C := Try.checked) false ⟨#[], #[.agg Pe.zero.arr, .agg (pkc Pk.zero)], []⟩ 8 (by kernel_rfl) (by kernel_rfl) (by kernel_rfl) (by kernel_rfl)) ?_
  intro W base args ds gs before hval0 hW hcnd hsz0 _
  have hval : ∀ (j : Nat) t v, Try.f5.params[j]? = some t → args[j]? = some v → Value.okWide Try.prog W .any base t v := hval0
  have hsz : (DataW.weightsEach Try.prog (Try.f5.params.toList ++ Rows.gatherRisesSpec.plain.varTypes Try.prog) (ds ++ gs)).all (· ≤ reachBytes) = true := hsz0
  have hW' := hW
  obtain ⟨p, q, hA0, hV, rfl, hfz, hnd⟩ := hW
  have hA : DataW.TrodAll enc Try.prog W 0 (fun _ => true) true Try.f5.params.toList args.toList ds p := hA0
  rw [Try.params5] at hA hval hsz

  obtain ⟨v0, vs0, d0, ds0, p0, q0, hargs, rfl, rfl, h0, r0⟩ := trodAll_cons hA
  obtain ⟨v1, vs1, d1, ds1, p1, q1, rfl, rfl, rfl, h1, r1⟩ := trodAll_cons r0
  obtain ⟨rfl, rfl, rfl⟩ := trodAll_nil r1
  obtain rfl : args = #[v0, v1] := by cases args; simp_all
  obtain ⟨rfl, rfl⟩ := trodVars_none hV
  obtain ⟨x0, rfl, kx0⟩ := open_pe (by obtain ⟨cs, h1, _⟩ := okWide_struct Try.underlying32 (hval 0 32 v0 rfl rfl); exact ⟨cs, h1⟩) h0
  obtain ⟨p1_, rfl⟩ := open_packet (by obtain ⟨cs, h1, _⟩ := okWide_struct Try.underlying43 (hval 1 43 v1 rfl rfl); exact ⟨cs, h1⟩) h1
  have hA2 := hA0
  clear hA0 hval0 hsz0
  simp only [List.append_nil] at hW'
  refine (walk x0 p1_ W).mono fun e W' ⟨he, bel⟩ => ?_
  subst he
  exact ⟨_, rfl, _, _, _, [], _, [], hW', trodAll_mk1 (shut_bool Try.underlying4 _), (stays_all laidOut bel (by kernel_rfl) hA2), rfl, bel.frame _, fun h => by cases h⟩

theorem over : Rows.gatherRisesRow.holds Try.pinned (OpenSpec.ofChange Rows.gatherRisesSpec) :=
  OpenClaim.holds_of_wide 5 Try.f5 rfl rfl rfl rfl rfl rfl rfl ⟨rfl, rfl, rfl, rfl, rfl⟩ rfl rfl rfl rfl rfl (by kernel_rfl) Try.func5 (by kernel_rfl)
    (of_decide_eq_true (by kernel_rfl)) (by unfold Func.isWrapper; first | (rw [if_pos (by decide +kernel)]; kernel_rfl) | (rw [if_neg (by decide +kernel)]; exact ⟨rfl, rfl⟩))
    (fun os started H enc _ => lifted os started H enc)

end Go.Proofs.Ytbmhfnallpcmpaa.gatherRises
namespace Go.Proofs.Ytbmhfnallpcmpaa

theorem gatherRises_holds : Rows.GatherRisesSaid := gatherRises.over
#print axioms gatherRises_holds

end Go.Proofs.Ytbmhfnallpcmpaa
