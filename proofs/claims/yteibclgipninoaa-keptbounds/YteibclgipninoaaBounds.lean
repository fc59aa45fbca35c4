/-
  Of what is offered nothing is taken above its bound, and nothing of who is no member; what was kept of the others stays: the law KeptBounds returns true for every input.
  No condition beyond the form's own.
-/
import Derived.Test.YteibclgipninoaaRows
import Derived.Test.YteibclgipninoaaKtN
import Derived.Test.YteibclgipninoaaKtI
import Derived.WalkKit
import Derived.ProofKit
import Derived.OpenShut
import Derived.ShutString
import Derived.SizedLaws
import Derived.ChangeOld
import Derived.Below
namespace Go.Proofs.Yteibclgipninoaa.keptBounds
open Go.Sort Go.ChangeShapes Go.WideShapes Go.ChangeAt Go.RowKit
open Go.ChangeMaps (open_string shut_string)
set_option linter.unusedVariables false
set_option maxRecDepth 10000

theorem own : ownKnob Try.prog.godebug = none := by kernel_rfl
theorem length_bytes (s : ByteArray) : s.data.toList.length = s.size := by rw [Array.length_toList]; rfl

theorem wsc_get_c (v : Value) (c m : Nat → Nat) (i : Nat) (h : i < 8) : (wsc v c m)[1 + i]? = some (.int .u32 (c i : Int)) := by
  obtain rfl | rfl | rfl | rfl | rfl | rfl | rfl | rfl : i = 0 ∨ i = 1 ∨ i = 2 ∨ i = 3 ∨ i = 4 ∨ i = 5 ∨ i = 6 ∨ i = 7 := by omega
  all_goals rfl
theorem wsc_get_m (v : Value) (c m : Nat → Nat) (i : Nat) (h : i < 8) : (wsc v c m)[9 + i]? = some (.int .u32 (m i : Int)) := by
  obtain rfl | rfl | rfl | rfl | rfl | rfl | rfl | rfl : i = 0 ∨ i = 1 ∨ i = 2 ∨ i = 3 ∨ i = 4 ∨ i = 5 ∨ i = 6 ∨ i = 7 := by omega
  all_goals rfl
theorem and7 (d : Nat) (h : d < 8) : bits .and .i64 (d : Int) 7 = (d : Int) := by
  obtain rfl | rfl | rfl | rfl | rfl | rfl | rfl | rfl : d = 0 ∨ d = 1 ∨ d = 2 ∨ d = 3 ∨ d = 4 ∨ d = 5 ∨ d = 6 ∨ d = 7 := by omega
  all_goals rfl

set_option maxHeartbeats 8000000 in
theorem walk (la : Option Addr) (L : List Kt) (lk : Nat) (c m : Nat → Nat) (hz : L.length * 352 ≤ 140737488351232) (hc : ∀ i, c i < 4294967296) (p : Pk) (o : Nat → Nat) (ho : ∀ i, o i < 4294967296) (w : World) (lS : Li Kt.vals 0 la L w) :
    Calls Try.prog 6 #[.agg (wsc (.slice la L.length lk) c m), .agg (pkc p), .agg (mbc o)] w fun e w' => e = .returned (.bool true) ∧ Below w.heap.size w w' := by
  have pO := offer_ok L la lk c m o p hc hz
  have lm3 := offO_tlen m o p ⟨L, c, []⟩
  replace lm3 : (offO m o p ⟨L, c, []⟩).t.length ≤ 3 := lm3
  have HF : Hid (Fol c m o (offO m o p ⟨L, c, []⟩)) := (Fol.first L c m o hc).offer p
  unfold Offered at pO
  generalize offO m o p ⟨L, c, []⟩ = S at pO lm3 HF
  obtain ⟨nt, hnt⟩ : ∃ nt, S.t.length = nt := ⟨_, rfl⟩
  rw [hnt] at lm3 pO
  have HN : Hid (S.t.length = nt) := hnt
  have n3 : ¬ (3 : Int) < (nt : Int) := by omega
  clear hnt ho
  obtain ⟨a0, a1, a2, hB⟩ := three_blk (T0 := 28) (T1 := 49) (T2 := 25) (C0 := (wsc (.slice la L.length lk) c m)) (C1 := pkc p) (C2 := mbc o) (w := w) rfl
  go_enter Try.func6, Try.ntmps6
  go_upto_region 1 with fail
  generalize ((w.alloc (Obj.cells (wsc (.slice la L.length lk) c m) 28)).alloc (Obj.cells (pkc p) 49)).alloc (Obj.cells (mbc o) 25) = W at a0 a1 a2 hB ⊢
  have c0 : W.cell? ⟨w.heap.size, 0, none⟩ = some (.slice la L.length lk) := a0.cell 0 _ rfl
  go_wp2_with (first | refine load_part rfl 25 _ rfl (o := 1) a0 rfl (row8 c) (wsc_c _ _ _) Try.underlying25 rfl sizeCt ?_ | refine load_part rfl 26 _ rfl (o := 9) a0 rfl (row8 m) (wsc_m _ _ _) Try.underlying26 rfl sizeMb ?_ | refine load_blk rfl 49 _ rfl a1 rfl Try.underlying49 rfl sizePk ?_ | refine load_blk rfl 25 _ rfl a2 rfl Try.underlying25 rfl sizeCt ?_)
  refine (pO _ (lS.below hB)).mono ?_
  rintro r w1 ⟨⟨ra, rk, rb, rj, rfl, rl, rt⟩, hb⟩
  replace a0 := a0.below hb
  replace a1 := a1.below hb
  replace a2 := a2.below hb
  replace hB := hB.trans (hb.mono hB.size)
  clear hb
  clear c0 pO rl
  have hb := below_box w1 (.cells (mbc S.c) 25)
  have d1 := blk_new w1 (mbc S.c) 25
  go_upto_region 2 with (first | refine alloc_zero zeroCt rfl rfl ?_ | refine store_new rfl 25 _ _ rfl (cells := (mbc S.c)) rfl rfl sizeCt rfl (mbc_one _) ?_)
  try simp only [Act.put]
  generalize w1.alloc (Obj.cells (mbc S.c) 25) = V1 at d1 hb ⊢
  replace a0 := a0.below hb
  replace a1 := a1.below hb
  replace a2 := a2.below hb
  replace rt := rt.below hb
  replace hB := hB.trans (hb.mono hB.size)
  clear hb
  clear a1
  generalize w1.heap.size = p8 at *
  go_wp2_with fail
  refine (fixed_ok _).mono ?_
  rintro r w2 ⟨rfl, hb⟩
  replace a0 := a0.below hb
  replace a2 := a2.below hb
  replace rt := rt.below hb
  replace d1 := d1.below hb
  replace hB := hB.trans (hb.mono hB.size)
  clear hb
  go_wp2_with fail
  go_loopw [10] (fun iv wr => ∃ j : Nat, j ≤ nt ∧ iv = .int .i64 j ∧ Li Kt.vals 0 rb S.t wr ∧ Blk w.heap.size (wsc (.slice la L.length lk) c m) 28 wr ∧ Blk (w.heap.size + 1 + 1) (mbc o) 25 wr ∧ Blk p8 (mbc S.c) 25 wr ∧ Below w.heap.size w wr) (fun iv _ => nt - (intOf iv).toNat)
  case atStart => exact ⟨0, by omega, rfl, rt, a0, a2, d1, hB⟩
  case round =>
    clear rt a0 a2 d1 hB
    obtain ⟨j, hj, rfl, rt, a0, a2, d1, hB⟩ := hrel
    by_cases hjn : j < nt
    · have j0 : (j : Int) < (nt : Int) := by omega
      have j1 : (0 : Int) ≤ (j : Int) := by omega
      obtain ⟨x, hx⟩ : ∃ x, S.t[j]? = some x := ⟨_, List.getElem?_eq_getElem (by rw [HN.out]; exact hjn)⟩
      obtain ⟨hM, hxo, hxc⟩ := HF.out.tk x (List.mem_of_getElem? hx)
      obtain ⟨d, hd, hdm⟩ := (isM_iff m x.fr).1 hM
      obtain ⟨hd8, _⟩ := (mem_lst m d).1 hdm
      rw [hd, Int.toNat_natCast] at hxo hxc
      rw [hd] at hM
      obtain ⟨b, oo, rfl, _, _, hr⟩ := rt.at Kt.vals_length j x hx
      have d0 : (d : Int) < 8 := by omega
      have d1' : (0 : Int) ≤ (d : Int) := by omega
      have d2 := and7 d hd8
      have d3 : decide (o d < x.rd) = false := by simp; omega
      have d4 : decide (x.rd ≤ c d) = false := by simp; omega
      have b1 := blk_new wr x.arr 36
      have hb := below_box wr (.cells x.arr 36)
      clear hx hxo hxc hdm
      go_upto_region 8 with (first | refine load_range rfl 36 _ rfl x.vals hr rfl Try.underlying36 rfl sizeKt ?_ | refine alloc_zero zeroKt rfl rfl ?_ | refine store_new rfl 36 _ _ rfl (cells := x.arr) rfl rfl sizeKt rfl (Kt.arr_one _) ?_)
      try simp only [Act.put, List.setIfInBounds_toArray, List.set_cons_zero, List.set_cons_succ]
      generalize wr.alloc (Obj.cells x.arr 36) = U at b1 hb ⊢
      replace rt := rt.below hb
      replace a0 := a0.below hb
      replace a2 := a2.below hb
      replace d1 := d1.below hb
      replace hB := hB.trans (hb.mono hB.size)
      clear hb hr
      have lm : ∀ w', (∃ p : Regrown, w' = grow (redrawn U p.d) p.os) → w'.rangeAt w.heap.size 9 (row8 m) := fun w' h => (a0.regrown w' h).range 9 _ (wsc_m _ _ _)
      have q0 : ∀ d' os, (grow (redrawn U d') os).cell? ⟨wr.heap.size, 0, none⟩ = some (.int .i64 (d : Int)) := cell_regrown (by have := b1.cell 0 _ x.get0; rw [hd] at this; exact this)
      have q1 : ∀ d' os, (grow (redrawn U d') os).cell? ⟨wr.heap.size, 1, none⟩ = some (.int .u32 (x.rd : Int)) := cell_regrown (b1.cell 1 _ x.get1)
      have q2 : ∀ d' os, (grow (redrawn U d') os).cell? ⟨w.heap.size + 1 + 1, d, none⟩ = some (.int .u32 (o d : Int)) := cell_regrown (a2.cell d _ (mbc_get o d hd8))
      have q3 : ∀ d' os, (grow (redrawn U d') os).cell? ⟨w.heap.size, 1 + d, none⟩ = some (.int .u32 (c d : Int)) := cell_regrown (a0.cell (1 + d) _ (wsc_get_c _ c m d hd8))
      have pI := is_ok m (d : Int)
      rw [hM] at pI
      have r0 : ∀ d' os, Calls Try.prog 18 #[.agg (row8 m).toArray, .int .i64 (d : Int)] (grow (redrawn U d') os) fun e w'' => e = .returned (.bool true) ∧ ∃ p : Regrown, w'' = grow (redrawn U p.d) p.os := fun d' os => Calls.regrown_of (pI _)
      clear pI hd hM b1
      refine wp_region_quiet_below (by kernel_rfl) (by kernel_rfl) ?_
      repeat (first
        | (go_big_quiet_want; refine quiet_range (off := 9) rfl rfl lm Try.underlying26 rfl sizeMb ?_; simp only [Act.put, List.setIfInBounds_toArray, List.set_cons_zero, List.set_cons_succ]; go_big_quiet_on)
        | go_big_quiet_step (first | with_reducible exact r0 _ _))
      refine wpQuiet_nil ?_
      intro _ hw'
      obtain ⟨⟨dq, osq⟩, hw''⟩ := hw'
      have hb := below_regrown U dq osq
      subst hw''
      generalize grow (redrawn U dq) osq = u1 at hb ⊢
      replace a0 := a0.below hb
      replace a2 := a2.below hb
      replace d1 := d1.below hb
      replace rt := rt.below hb
      replace hB := hB.trans (hb.mono hB.size)
      clear hb
      clear lm q0 q1 q2 q3 r0
      clear d0 d1' d2 d3 d4
      go_wp2_with fail
      exact ⟨⟨j + 1, by omega, by go_num, rt, a0, a2, d1, hB⟩, by simp [intOf]; omega⟩
    · obtain rfl : j = nt := by omega
      clear rt
      go_wp2_with fail
      go_loopw [12] (fun iv wx => ∃ i : Nat, i ≤ 8 ∧ iv = .int .i64 i ∧ Blk w.heap.size (wsc (.slice la L.length lk) c m) 28 wx ∧ Blk (w.heap.size + 1 + 1) (mbc o) 25 wx ∧ Blk p8 (mbc S.c) 25 wx ∧ Below w.heap.size w wx) (fun iv _ => 8 - (intOf iv).toNat)
      case atStart => exact ⟨0, by omega, rfl, a0, a2, d1, hB⟩
      case round =>
        clear a0 a2 d1 hB
        obtain ⟨i, hi, rfl, a0, a2, d1, hB⟩ := hrel
        rename World => ws
        by_cases hi8 : i < 8
        · have i0 : (i : Int) < 8 := by omega
          have i1 : (0 : Int) ≤ (i : Int) := by omega
          have q0 : ∀ d' os, (grow (redrawn ws d') os).cell? ⟨p8, i, none⟩ = some (.int .u32 (S.c i : Int)) := cell_regrown (d1.cell i _ (mbc_get S.c i hi8))
          have q1 : ∀ d' os, (grow (redrawn ws d') os).cell? ⟨w.heap.size, 1 + i, none⟩ = some (.int .u32 (c i : Int)) := cell_regrown (a0.cell (1 + i) _ (wsc_get_c _ c m i hi8))
          have q2 : ∀ d' os, (grow (redrawn ws d') os).cell? ⟨w.heap.size, 9 + i, none⟩ = some (.int .u32 (m i : Int)) := cell_regrown (a0.cell (9 + i) _ (wsc_get_m _ c m i hi8))
          have q3 : ∀ d' os, (grow (redrawn ws d') os).cell? ⟨w.heap.size + 1 + 1, i, none⟩ = some (.int .u32 (o i : Int)) := cell_regrown (a2.cell i _ (mbc_get o i hi8))
          have h1 := HF.out.up i
          have h2 := HF.out.non i hi8
          have h3 := HF.out.top i
          obtain ⟨u, hu⟩ : ∃ u, S.c i = u := ⟨_, rfl⟩
          obtain ⟨v, hv⟩ : ∃ v, c i = v := ⟨_, rfl⟩
          obtain ⟨y, hy⟩ : ∃ y, m i = y := ⟨_, rfl⟩
          obtain ⟨z, hz⟩ : ∃ z, o i = z := ⟨_, rfl⟩
          rw [hu] at q0 h1 h2 h3
          rw [hv] at q1 h1 h2 h3
          rw [hy] at q2 h2
          rw [hz] at q3 h3
          have g1 : decide (u < v) = false := by simp; omega
          clear hu hv hy hz
          by_cases hm : y = 0
          · have g2 : ((y : Int) == 0) = true := by simp [hm]
            have hq := h2 hm
            have g3 : ((u : Int) != (v : Int)) = false := by simp [hq]
            have g4 : decide (v < u) = false := by simp; omega
            clear hm h1 h2 h3 hq
            go_upto_region 13 with fail
            try simp only [Act.put]
            refine wp_region_quiet_below (by kernel_rfl) (by kernel_rfl) ?_
            repeat (first
              | go_big_quiet_step (fail))
            refine wpQuiet_nil ?_
            intro _ hw'
            obtain ⟨⟨dq, osq⟩, hw''⟩ := hw'
            have hb := below_regrown ws dq osq
            subst hw''
            generalize grow (redrawn ws dq) osq = u1 at hb ⊢
            replace a0 := a0.below hb
            replace a2 := a2.below hb
            replace d1 := d1.below hb
            replace hB := hB.trans (hb.mono hB.size)
            clear hb
            clear q0 q1 q2 q3
            go_wp2_with fail
            exact ⟨⟨i + 1, by omega, by go_num, a0, a2, d1, hB⟩, by simp [intOf]; omega⟩
          · have g2 : ((y : Int) == 0) = false := by rw [beq_eq_false_iff_ne]; omega
            by_cases hg : v < u
            · have g4 : decide (v < u) = true := by simpa using hg
              have hq := h3 hg
              have g5 : decide (z < u) = false := by simp; omega
              clear hm h1 h2 h3 hg hq
              go_upto_region 13 with fail
              try simp only [Act.put]
              refine wp_region_quiet_below (by kernel_rfl) (by kernel_rfl) ?_
              repeat (first
                | go_big_quiet_step (fail))
              refine wpQuiet_nil ?_
              intro _ hw'
              obtain ⟨⟨dq, osq⟩, hw''⟩ := hw'
              have hb := below_regrown ws dq osq
              subst hw''
              generalize grow (redrawn ws dq) osq = u1 at hb ⊢
              replace a0 := a0.below hb
              replace a2 := a2.below hb
              replace d1 := d1.below hb
              replace hB := hB.trans (hb.mono hB.size)
              clear hb
              clear q0 q1 q2 q3
              go_wp2_with fail
              exact ⟨⟨i + 1, by omega, by go_num, a0, a2, d1, hB⟩, by simp [intOf]; omega⟩
            · have g4 : decide (v < u) = false := by simpa using hg
              clear hm h1 h2 h3 hg
              go_upto_region 13 with fail
              try simp only [Act.put]
              refine wp_region_quiet_below (by kernel_rfl) (by kernel_rfl) ?_
              repeat (first
                | go_big_quiet_step (fail))
              refine wpQuiet_nil ?_
              intro _ hw'
              obtain ⟨⟨dq, osq⟩, hw''⟩ := hw'
              have hb := below_regrown ws dq osq
              subst hw''
              generalize grow (redrawn ws dq) osq = u1 at hb ⊢
              replace a0 := a0.below hb
              replace a2 := a2.below hb
              replace d1 := d1.below hb
              replace hB := hB.trans (hb.mono hB.size)
              clear hb
              clear q0 q1 q2 q3
              go_wp2_with fail
              exact ⟨⟨i + 1, by omega, by go_num, a0, a2, d1, hB⟩, by simp [intOf]; omega⟩
        · obtain rfl : i = 8 := by omega
          clear a0 a2 d1
          go_wp2_with fail
          go_ret
          exact ⟨rfl, hB⟩

set_option maxRecDepth 100000 in
theorem lifted (os : Go.Os) (started : os.Started) (H : Type) (enc : TypeId × Value → H) :
    ReturnsInHanded {} Try.checked os 6 .any (Rows.keptBoundsSpec.pre6 enc Try.prog Try.f6 Rows.keptBoundsRow.domain false) (Rows.keptBoundsSpec.post enc Try.prog Try.f6 false true false false) := by
  refine returnsInHanded_of_change_sized (C := Try.checked) own started (by kernel_rfl) Try.func6
    (ChangeSpec.witness6 (enc := enc) (C := Try.checked) false ⟨#[], #[.agg (wsc (.slice none 0 0) noMb noMb), .agg (pkc Pk.zero), .agg (mbc noMb)], []⟩ 8 (by kernel_rfl) (by kernel_rfl) (by kernel_rfl) (by kernel_rfl)) ?_
  intro W base args ds gs before hval0 hW hcnd hsz0 _
  have hval : ∀ (j : Nat) t v, Try.f6.params[j]? = some t → args[j]? = some v → Value.okWide Try.prog W .any base t v := hval0
  have hsz : (DataW.weightsEach Try.prog (Try.f6.params.toList ++ Rows.keptBoundsSpec.plain.varTypes Try.prog) (ds ++ gs)).all (· ≤ reachBytes) = true := hsz0
  have hW' := hW
  obtain ⟨p, q, hA0, hV, rfl, hfz, hnd⟩ := hW
  have hA : DataW.TrodAll enc Try.prog W 0 (fun _ => true) true Try.f6.params.toList args.toList ds p := hA0
  rw [Try.params6] at hA hval hsz

  obtain ⟨v0, vs0, d0, ds0, p0, q0, hargs, rfl, rfl, h0, r0⟩ := trodAll_cons hA
  obtain ⟨v1, vs1, d1, ds1, p1, q1, rfl, rfl, rfl, h1, r1⟩ := trodAll_cons r0
  obtain ⟨v2, vs2, d2, ds2, p2, q2, rfl, rfl, rfl, h2, r2⟩ := trodAll_cons r1
  obtain ⟨rfl, rfl, rfl⟩ := trodAll_nil r2
  obtain rfl : args = #[v0, v1, v2] := by cases args; simp_all
  obtain ⟨rfl, rfl⟩ := trodVars_none hV
  obtain ⟨la0, L0, lk0, c0, m0, rfl, lz0, kc0, hS0⟩ := open_was (by obtain ⟨cs, h1, _⟩ := okWide_struct Try.underlying28 (hval 0 28 v0 rfl rfl); exact ⟨cs, h1⟩) (fun n hn => of_decide_eq_true (List.all_eq_true.1 hsz _ (DataW.weights_mem_each (j := 0) rfl rfl n hn))) h0
  obtain ⟨p1_, rfl⟩ := open_packet (by obtain ⟨cs, h1, _⟩ := okWide_struct Try.underlying49 (hval 1 49 v1 rfl rfl); exact ⟨cs, h1⟩) h1
  obtain ⟨c2, rfl, kc2⟩ := open_ct (by obtain ⟨cs, h1, _⟩ := (by simpa only [Value.okWide, Try.underlying25] using hval 2 25 v2 rfl rfl : ∃ cs, v2 = .agg cs ∧ _); exact ⟨cs, h1⟩) h2
  have hA2 := hA0
  clear hA0 hval0 hsz0
  simp only [List.append_nil] at hW'
  refine (walk la0 L0 lk0 c0 m0 lz0 kc0 p1_ c2 kc2 W hS0).mono fun e W' ⟨he, bel⟩ => ?_
  subst he
  exact ⟨_, rfl, _, _, _, [], _, [], hW', trodAll_mk1 (shut_bool Try.underlying4 _), (stays_all laidOut bel (by kernel_rfl) hA2), rfl, bel.frame _, fun h => by cases h⟩

theorem over : Rows.keptBoundsRow.holds Try.pinned (OpenSpec.ofChange Rows.keptBoundsSpec) :=
  OpenClaim.holds_of_wide 6 Try.f6 rfl rfl rfl rfl rfl rfl rfl ⟨rfl, rfl, rfl, rfl, rfl⟩ rfl rfl rfl rfl rfl (by kernel_rfl) Try.func6 (by kernel_rfl)
    (of_decide_eq_true (by kernel_rfl)) (by unfold Func.isWrapper; first | (rw [if_pos (by decide +kernel)]; kernel_rfl) | (rw [if_neg (by decide +kernel)]; exact ⟨rfl, rfl⟩))
    (fun os started H enc _ => lifted os started H enc)

end Go.Proofs.Yteibclgipninoaa.keptBounds
namespace Go.Proofs.Yteibclgipninoaa

theorem keptBounds_holds : Rows.KeptBoundsSaid := keptBounds.over
#print axioms keptBounds_holds

end Go.Proofs.Yteibclgipninoaa
