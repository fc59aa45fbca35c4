/-
  The list of members rises, has each one once, and no other one; the least one is its first: the law IdentMembers returns true for every input.
  No condition beyond the form's own.
-/
import Derived.Test.YtbgfhmnlnjlnhaaRows
import Derived.Test.YtbgfhmnlnjlnhaaImN
import Derived.WalkKit
import Derived.ProofKit
import Derived.OpenShut
import Derived.ShutString
import Derived.SizedLaws
import Derived.ChangeOld
import Derived.Below
namespace Go.Proofs.Ytbgfhmnlnjlnhaa.identMembers
open Go.Sort Go.ChangeShapes Go.WideShapes Go.ChangeAt Go.RowKit
open Go.ChangeMaps (open_string shut_string)
set_option linter.unusedVariables false
set_option maxRecDepth 10000

theorem own : ownKnob Try.prog.godebug = none := by kernel_rfl
theorem length_bytes (s : ByteArray) : s.data.toList.length = s.size := by rw [Array.length_toList]; rfl

set_option maxHeartbeats 16000000 in
theorem walk_none (m : Nat → Nat) (n q : Nat) (HN : Hid ((lst m).length = n)) (hq : Hid ((lst m).headD 0 = q)) (ht : Hid ((!(lst m).isEmpty) = false)) (hn0 : n = 0) (w : World) : Calls Try.prog 7 #[.agg (mbc m)] w fun e w' => e = .returned (.bool true) ∧ Below w.heap.size w w' := by
  have pL := least_ok m
  rw [hq.out, ht.out] at pL
  have pM := many_ok m
  rw [HN.out] at pM
  have hn8 := lst_len m
  rw [HN.out] at hn8
  have b1 := blk_new w (mbc m) 26
  have hB : Below w.heap.size w (w.alloc (.cells (mbc m) 26)) := below_box w _
  clear hq ht
  have n0 : ¬ (0 : Int) < (n : Int) := by omega
  go_enter Try.func7, Try.ntmps7
  go_wp2_with (refine load_blk rfl 26 _ rfl b1 rfl Try.underlying26 rfl sizeMb ?_)
  refine (list_ok m _).mono ?_
  rintro r w1 ⟨⟨la, lc, rfl, hS⟩, hb⟩
  rw [HN.out]
  have b1 := b1.below hb
  have hB := hB.trans (hb.mono hB.size)
  have hS := hS.mono (Nat.zero_le _)
  clear hb
  go_wp2_with (refine load_blk rfl 26 _ rfl b1 rfl Try.underlying26 rfl sizeMb ?_)
  refine (pL _).mono ?_
  rintro r w2 ⟨rfl, hb⟩
  have b1 := b1.below hb
  have hB := hB.trans (hb.mono hB.size)
  have hS := hS.below hb
  clear hb pL
  go_wp2_with fail
  refine (fixed_ok _).mono ?_
  rintro r w3 ⟨rfl, hb⟩
  have b1 := b1.below hb
  have hB := hB.trans (hb.mono hB.size)
  have hS := hS.below hb
  clear hb
  go_wp2_with (refine load_want rfl 26 _ rfl b1 rfl Try.underlying26 rfl sizeMb ?_)
  refine (pM _).mono ?_
  rintro r w4 ⟨rfl, hb⟩
  have b1 := b1.below hb
  have hB := hB.trans (hb.mono hB.size)
  have hS := hS.below hb
  clear hb pM
  go_wp2_with fail
  go_loopw [6] (fun iv wr => ∃ j : Nat, j ≤ n ∧ iv = .int .i64 j ∧ Li nv 0 la (lst m) wr ∧ Blk w.heap.size (mbc m) 26 wr ∧ Below w.heap.size w wr) (fun iv _ => n - (intOf iv).toNat)
  case atStart => exact ⟨0, by omega, rfl, hS, b1, hB⟩
  case round =>
    clear hS b1 hB
    obtain ⟨j, hj, rfl, hS, b1, hB⟩ := hrel
    by_cases hjn : j < n
    · omega
    · obtain rfl : j = n := by omega
      clear hjn
      go_wp2_with fail
      go_loopw [7, 8] (fun mv iv wx => ∃ i k : Nat, i ≤ 8 ∧ k ≤ 8 ∧ iv = .int .i64 i ∧ mv = .int .i64 k ∧ wx = wr ∧ Hid ((lstTo m i).length = k)) (fun _ iv _ => 8 - (intOf iv).toNat)
      case atStart => exact ⟨0, 0, by omega, by omega, rfl, rfl, rfl, congrArg List.length (lstTo_zero m)⟩
      case round =>
        obtain ⟨i, k, hi, hk, rfl, rfl, rfl, h0⟩ := hrel
        by_cases hi8 : i < 8
        · have i0 : (i : Int) < 8 := by omega
          have i1 : (0 : Int) ≤ (i : Int) := by omega
          have hle := lstTo_len m i
          rw [h0.out] at hle
          have c0 := b1.cell i _ (mbc_get m i hi8)
          by_cases hm : m i = 0
          · have HS : Hid ((lstTo m (i + 1)).length = k) := by rw [lstTo_skip m i hm]; exact h0.out
            have hm' : (m i : Int) = 0 := by omega
            rw [hm'] at c0
            clear h0 hm hle hm'
            go_wp2_with fail
            exact ⟨⟨i + 1, k, by omega, by omega, by go_num, by go_num, trivial, HS⟩, by simp [intOf]; omega⟩
          · have HS : Hid ((lstTo m (i + 1)).length = k + 1) := by
              show (lstTo m (i + 1)).length = k + 1
              rw [lstTo_take m i hm, List.length_append, h0.out]; rfl
            have hm' : ¬ (m i : Int) = 0 := by omega
            clear h0 hm
            go_wp2_with fail
            exact ⟨⟨i + 1, k + 1, by omega, by omega, by go_num, by go_num, trivial, HS⟩, by simp [intOf]; omega⟩
        · obtain rfl : i = 8 := by omega
          obtain rfl : j = k := by rw [← HN.out, ← h0.out]; rfl
          clear h0
          go_wp2_with fail
          go_ret
          exact ⟨rfl, hB⟩

set_option maxHeartbeats 16000000 in
theorem walk_some (m : Nat → Nat) (n q : Nat) (HN : Hid ((lst m).length = n)) (hq : Hid ((lst m).headD 0 = q)) (ht : Hid ((!(lst m).isEmpty) = true)) (hn0 : 0 < n) (hfst : (lst m)[0]? = some q) (w : World) : Calls Try.prog 7 #[.agg (mbc m)] w fun e w' => e = .returned (.bool true) ∧ Below w.heap.size w w' := by
  have pL := least_ok m
  rw [hq.out, ht.out] at pL
  have pM := many_ok m
  rw [HN.out] at pM
  have hn8 := lst_len m
  rw [HN.out] at hn8
  have b1 := blk_new w (mbc m) 26
  have hB : Below w.heap.size w (w.alloc (.cells (mbc m) 26)) := below_box w _
  clear hq ht
  have n0 : (0 : Int) < (n : Int) := by omega
  go_enter Try.func7, Try.ntmps7
  go_wp2_with (refine load_blk rfl 26 _ rfl b1 rfl Try.underlying26 rfl sizeMb ?_)
  refine (list_ok m _).mono ?_
  rintro r w1 ⟨⟨la, lc, rfl, hS⟩, hb⟩
  rw [HN.out]
  have b1 := b1.below hb
  have hB := hB.trans (hb.mono hB.size)
  have hS := hS.mono (Nat.zero_le _)
  clear hb
  go_wp2_with (refine load_blk rfl 26 _ rfl b1 rfl Try.underlying26 rfl sizeMb ?_)
  refine (pL _).mono ?_
  rintro r w2 ⟨rfl, hb⟩
  have b1 := b1.below hb
  have hB := hB.trans (hb.mono hB.size)
  have hS := hS.below hb
  clear hb pL
  go_wp2_with fail
  refine (fixed_ok _).mono ?_
  rintro r w3 ⟨rfl, hb⟩
  have b1 := b1.below hb
  have hB := hB.trans (hb.mono hB.size)
  have hS := hS.below hb
  clear hb
  go_wp2_with (refine load_want rfl 26 _ rfl b1 rfl Try.underlying26 rfl sizeMb ?_)
  refine (pM _).mono ?_
  rintro r w4 ⟨rfl, hb⟩
  have b1 := b1.below hb
  have hB := hB.trans (hb.mono hB.size)
  have hS := hS.below hb
  clear hb pM
  go_wp2_with fail
  go_loopw [6] (fun iv wr => ∃ j : Nat, j ≤ n ∧ iv = .int .i64 j ∧ Li nv 0 la (lst m) wr ∧ Blk w.heap.size (mbc m) 26 wr ∧ Below w.heap.size w wr) (fun iv _ => n - (intOf iv).toNat)
  case atStart => exact ⟨0, by omega, rfl, hS, b1, hB⟩
  case round =>
    clear hS b1 hB
    obtain ⟨j, hj, rfl, hS, b1, hB⟩ := hrel
    by_cases hjn : j < n
    · have j0 : (j : Int) < (n : Int) := by omega
      have j1 : (0 : Int) ≤ (j : Int) := by omega
      obtain ⟨d, hd⟩ : ∃ d, (lst m)[j]? = some d := ⟨_, List.getElem?_eq_getElem (by rw [HN.out]; exact hjn)⟩
      obtain ⟨hd8, hd0⟩ := lst_mem m j d hd
      obtain ⟨b, o, rfl, _, hbl, hr⟩ := hS.at nv_length j d hd
      have c0 : wr.cell? ⟨b, o + j, none⟩ = some (.int .i64 (d : Int)) := by have := hr 0 _ rfl; simpa using this
      have r0 : ∀ d' os, (grow (redrawn wr d') os).cell? ⟨b, o + j, none⟩ = some (.int .i64 (d : Int)) := cell_regrown c0
      have r1 : ∀ d' os, (grow (redrawn wr d') os).cell? ⟨w.heap.size, d, none⟩ = some (.int .u32 (m d : Int)) := cell_regrown (b1.cell d _ (mbc_get m d hd8))
      have qm := b1.regrown
      have ph := has_ok m (d : Int) (m d)
      have hh : hasM m (d : Int) (m d) = true := by simp [hasM, hd0]; omega
      rw [hh] at ph
      have p0 : ∀ d' os, Calls Try.prog 18 #[.agg (mbc m), .int .i64 (d : Int), .int .u32 (m d : Int)] (grow (redrawn wr d') os) fun e w'' => e = .returned (.bool true) ∧ ∃ p : Regrown, w'' = grow (redrawn wr p.d) p.os := fun d' os => Calls.regrown_of (ph _)
      have h7 := and7 d hd8
      have d0 : decide ((d : Int) < 0) = false := by rw [decide_eq_false_iff_not]; omega
      have d1 : decide ((7 : Int) < (d : Int)) = false := by rw [decide_eq_false_iff_not]; omega
      have d2 : (0 : Int) ≤ (d : Int) := by omega
      have d3 : (d : Int) < 8 := by omega
      by_cases hj0 : j = 0
      · have k0 : decide (0 < j) = false := by rw [decide_eq_false_iff_not]; omega
        clear hj0
        clear hh ph hr hd hd0
        go_wp2_with fail
        refine wp_region_quiet_below (by kernel_rfl) (by kernel_rfl) ?_
        repeat (first
          | (go_big_quiet_want; refine quiet_load rfl rfl qm Try.underlying26 rfl sizeMb ?_; simp only [Act.put, List.setIfInBounds_toArray, List.set_cons_zero, List.set_cons_succ]; go_big_quiet_on)
          | go_big_quiet_step (with_reducible exact p0 _ _))
        refine wpQuiet_nil ?_
        intro _ hw'
        obtain ⟨⟨dq, osq⟩, hw''⟩ := hw'
        have hb := below_regrown wr dq osq
        subst hw''
        generalize grow (redrawn wr dq) osq = w5 at hb ⊢
        have b1 := b1.below hb
        have hB := hB.trans (hb.mono hB.size)
        have hS := hS.below hb
        clear hb r0 r1 p0 qm
        go_wp2_with fail
        exact ⟨⟨j + 1, by omega, by go_num, hS, b1, hB⟩, by simp [intOf]; omega⟩
      · have k0 : decide (0 < j) = true := by rw [decide_eq_true_eq]; omega
        obtain ⟨i, hi⟩ : ∃ i, j = i + 1 := ⟨j - 1, by omega⟩
        obtain ⟨e, he⟩ : ∃ e, (lst m)[i]? = some e := ⟨_, List.getElem?_eq_getElem (by rw [HN.out]; omega)⟩
        rw [hi] at hd
        have hlt := lst_rise m i e d he hd
        obtain ⟨b', o', e', _, _, hr'⟩ := hS.at nv_length i e he
        injection e' with e'
        injection e' with e1 e2 e3
        subst e1 e2
        have c1 : wr.cell? ⟨b, o + i, none⟩ = some (.int .i64 (e : Int)) := by have := hr' 0 _ rfl; simpa using this
        have r2 : ∀ d' os, (grow (redrawn wr d') os).cell? ⟨b, o + i, none⟩ = some (.int .i64 (e : Int)) := cell_regrown c1
        have k1 : decide ((d : Int) ≤ (e : Int)) = false := by rw [decide_eq_false_iff_not]; omega
        have k1n : decide (d ≤ e) = false := by rw [decide_eq_false_iff_not]; omega
        have k2 : IntKind.i64.wrap ((j : Int) - 1) = (i : Int) := by
          have : (j : Int) - 1 = (i : Int) := by omega
          rw [this, IntKind.wrap_i64]
          omega
        have k3 : (i : Int) < (n : Int) := by omega
        have k4 : (0 : Int) ≤ (i : Int) := by omega
        clear hh ph hr hd hd0 hr' he hlt hi hj0
        go_wp2_with fail
        refine wp_region_quiet_below (by kernel_rfl) (by kernel_rfl) ?_
        repeat (first
          | (go_big_quiet_want; refine quiet_load rfl rfl qm Try.underlying26 rfl sizeMb ?_; simp only [Act.put, List.setIfInBounds_toArray, List.set_cons_zero, List.set_cons_succ]; go_big_quiet_on)
          | go_big_quiet_step (with_reducible exact p0 _ _))
        refine wpQuiet_nil ?_
        intro _ hw'
        obtain ⟨⟨dq, osq⟩, hw''⟩ := hw'
        have hb := below_regrown wr dq osq
        subst hw''
        generalize grow (redrawn wr dq) osq = w5 at hb ⊢
        have b1 := b1.below hb
        have hB := hB.trans (hb.mono hB.size)
        have hS := hS.below hb
        clear hb r0 r1 p0 qm
        go_wp2_with fail
        exact ⟨⟨j + 1, by omega, by go_num, hS, b1, hB⟩, by simp [intOf]; omega⟩
    · obtain rfl : j = n := by omega
      clear hjn
      go_wp2_with fail
      go_loopw [7, 8] (fun mv iv wx => ∃ i k : Nat, i ≤ 8 ∧ k ≤ 8 ∧ iv = .int .i64 i ∧ mv = .int .i64 k ∧ wx = wr ∧ Hid ((lstTo m i).length = k)) (fun _ iv _ => 8 - (intOf iv).toNat)
      case atStart => exact ⟨0, 0, by omega, by omega, rfl, rfl, rfl, congrArg List.length (lstTo_zero m)⟩
      case round =>
        obtain ⟨i, k, hi, hk, rfl, rfl, rfl, h0⟩ := hrel
        by_cases hi8 : i < 8
        · have i0 : (i : Int) < 8 := by omega
          have i1 : (0 : Int) ≤ (i : Int) := by omega
          have hle := lstTo_len m i
          rw [h0.out] at hle
          have c0 := b1.cell i _ (mbc_get m i hi8)
          by_cases hm : m i = 0
          · have HS : Hid ((lstTo m (i + 1)).length = k) := by rw [lstTo_skip m i hm]; exact h0.out
            have hm' : (m i : Int) = 0 := by omega
            rw [hm'] at c0
            clear h0 hm hle hm'
            go_wp2_with fail
            exact ⟨⟨i + 1, k, by omega, by omega, by go_num, by go_num, trivial, HS⟩, by simp [intOf]; omega⟩
          · have HS : Hid ((lstTo m (i + 1)).length = k + 1) := by
              show (lstTo m (i + 1)).length = k + 1
              rw [lstTo_take m i hm, List.length_append, h0.out]; rfl
            have hm' : ¬ (m i : Int) = 0 := by omega
            clear h0 hm
            go_wp2_with fail
            exact ⟨⟨i + 1, k + 1, by omega, by omega, by go_num, by go_num, trivial, HS⟩, by simp [intOf]; omega⟩
        · obtain rfl : i = 8 := by omega
          obtain rfl : j = k := by rw [← HN.out, ← h0.out]; rfl
          clear h0
          obtain ⟨b, o, rfl, _, hbl, hr⟩ := hS.at nv_length 0 q hfst
          have c0 := hr 0 _ rfl
          rw [Nat.zero_mul, Nat.add_zero] at c0
          go_wp2_with fail
          go_ret
          exact ⟨rfl, hB⟩

theorem walk (m : Nat → Nat) (w : World) : Calls Try.prog 7 #[.agg (mbc m)] w fun e w' => e = .returned (.bool true) ∧ Below w.heap.size w w' := by
  cases h : lst m with
  | nil => exact walk_none m 0 0 (by rw [h]; rfl) (by rw [h]; rfl) (by rw [h]; rfl) rfl w
  | cons d l => exact walk_some m (l.length + 1) d (by rw [h]; rfl) (by rw [h]; rfl) (by rw [h]; rfl) (by omega) (by rw [h]; rfl) w

set_option maxRecDepth 100000 in
theorem lifted (os : Os) (started : os.Started) (H : Type) (enc : TypeId × Value → H) :
    ReturnsInHanded {} Try.checked os 7 .any (Rows.identMembersSpec.pre6 enc Try.prog Try.f7 Rows.identMembersRow.domain false) (Rows.identMembersSpec.post enc Try.prog Try.f7 false true false false) := by
  refine returnsInHanded_of_change_sized (C := Try.checked) own started (by kernel_rfl) Try.func7
    (ChangeSpec.witness6 (enc := enc) (C := Try.checked) false ⟨#[], #[.agg (mbc noMb)], []⟩ 8 (by kernel_rfl) (by kernel_rfl) (by kernel_rfl) (by kernel_rfl)) ?_
  intro W base args ds gs before hval0 hW hcnd hsz0 _
  have hval : ∀ (j : Nat) t v, Try.f7.params[j]? = some t → args[j]? = some v → Value.okWide Try.prog W .any base t v := hval0
  have hsz : (DataW.weightsEach Try.prog (Try.f7.params.toList ++ Rows.identMembersSpec.plain.varTypes Try.prog) (ds ++ gs)).all (· ≤ reachBytes) = true := hsz0
  have hW' := hW
  obtain ⟨p, q, hA0, hV, rfl, hfz, hnd⟩ := hW
  have hA : DataW.TrodAll enc Try.prog W 0 (fun _ => true) true Try.f7.params.toList args.toList ds p := hA0
  rw [Try.params7] at hA hval hsz

  obtain ⟨v0, vs0, d0, ds0, p0, q0, hargs, rfl, rfl, h0, r0⟩ := trodAll_cons hA
  obtain ⟨rfl, rfl, rfl⟩ := trodAll_nil r0
  obtain rfl : args = #[v0] := by cases args; simp_all
  obtain ⟨rfl, rfl⟩ := trodVars_none hV
  obtain ⟨m0, rfl⟩ := open_mb (by obtain ⟨cs, h1, _⟩ := (by simpa only [Value.okWide, Try.underlying26] using hval 0 26 v0 rfl rfl : ∃ cs, v0 = .agg cs ∧ _); exact ⟨cs, h1⟩) h0
  have hA2 := hA0
  clear hA0 hval0 hsz0
  simp only [List.append_nil] at hW'
  refine (walk m0 W).mono fun e W' ⟨he, bel⟩ => ?_
  subst he
  exact ⟨_, rfl, _, _, _, [], _, [], hW', trodAll_mk1 (shut_bool Try.underlying4 _), (stays_all laidOut bel (by kernel_rfl) hA2), rfl, bel.frame _, fun h => by cases h⟩

theorem over : Rows.identMembersRow.holds Try.pinned (OpenSpec.ofChange Rows.identMembersSpec) :=
  OpenClaim.holds_of_wide 7 Try.f7 rfl rfl rfl rfl rfl rfl rfl ⟨rfl, rfl, rfl, rfl, rfl⟩ rfl rfl rfl rfl rfl (by kernel_rfl) Try.func7 (by kernel_rfl)
    (of_decide_eq_true (by kernel_rfl)) (by unfold Func.isWrapper; first | (rw [if_pos (by decide +kernel)]; kernel_rfl) | (rw [if_neg (by decide +kernel)]; exact ⟨rfl, rfl⟩))
    (fun os started H enc _ => lifted os started H enc)

end Go.Proofs.Ytbgfhmnlnjlnhaa.identMembers
namespace Go.Proofs.Ytbgfhmnlnjlnhaa

theorem identMembers_holds : Rows.IdentMembersSaid := identMembers.over
#print axioms identMembers_holds

end Go.Proofs.Ytbgfhmnlnjlnhaa
