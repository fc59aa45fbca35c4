/-
  A call that may be is parsed from its print as it was; what is parsed may be, and is printed as it stood; unlike calls have unlike prints: the law ParseBack returns true for every input; its card.
  No condition beyond the form's own.
-/
import Derived.Test.YtiepdfngjfhadaaDoorRows
import Derived.Test.YtiepdfngjfhadaaDoorCards
import Derived.Test.YtiepdfngjfhadaaDoorTie
import Derived.Test.YtiepdfngjfhadaaDoorPaU
import Derived.Test.YtiepdfngjfhadaaDoorPaR
import Derived.WalkKit
import Derived.ProofKit
import Derived.OpenShut
import Derived.ShutString
import Derived.ChangeOld
import Derived.Below
import Derived.Lay
import Derived.Deep.DeepHandedRow
import Derived.Deep.DeepWitnessRowRef
import Derived.SevenTiedAt
namespace Go.Proofs.YtiepdfngjfhadaaDoor.parseBack
open Go.Sort Go.ChangeShapes Go.WideShapes Go.ChangeAt Go.RowKit
open Go.ChangeMaps (open_string shut_string)
set_option linter.unusedVariables false
set_option linter.unusedSimpArgs false
set_option maxRecDepth 10000

theorem own : ownKnob Tryd.prog.godebug = none := by kernel_rfl

theorem fit_of {s : List UInt8} {c : Ca} (h : IsCall s (some c)) : c.fit := by
  obtain ⟨h1, h2, h3, _⟩ := h
  rcases h1 with ⟨q, e⟩ | ⟨q, e⟩ | ⟨q, _, _, e⟩ | ⟨q, e⟩ | ⟨q, _, _, e⟩ | ⟨q, _, _, e⟩ | ⟨q, _, _, _, _, _, e⟩
  all_goals (obtain ⟨d, h, o, g, gr, sv, t⟩ := c; obtain ⟨e0, e1, e2, e3, e4, e5, e6⟩ := Ca.mk.inj e; simp only at *; refine ⟨⟨?_, ?_⟩, h2, h3, ⟨?_, ?_⟩, ⟨?_, ?_⟩, ⟨?_, ?_⟩, ?_⟩ <;> simp only <;> first | omega | (rw [e6]; decide))

set_option maxHeartbeats 32000000 in
theorem walk1 (c : Ca) (cf : c.fit) (d : Ca) (df : d.fit) (s : ByteArray) (hs : s.size ≤ 140737488351232) (w : World) (hE : Te w) (hmc : mayC c = true) : Calls Tryd.prog 5 #[.agg c.arr, .agg d.arr, .string s] w fun e w' => e = .returned (.bool true) ∧ Below w.heap.size w w' := by
  have b1 := blk_new w c.arr 24
  have hB := below_box w (.cells c.arr 24)
  have b2 := blk_new (w.alloc (.cells c.arr 24)) d.arr 24
  replace b1 := b1.alloc (.cells d.arr 24)
  replace hB := hB.alloc hB.size (.cells d.arr 24)
  rw [alloc_size] at b2
  replace hE := hE.next hB
  have hsz : (strB (outC c)).size ≤ 140737488355328 := by
    rw [strB_size]
    cases hm : mayC c
    · rw [(outC_iff c).2 hm]; decide
    · rw [outC_may hm, ← writeS_may ((mayC_iff c).1 hm)]; exact writeS_len c cf
  have pp := print_ok c cf
  go_enter Tryd.func5, Tryd.ntmps5
  go_upto_region 1 with fail
  try simp only [Act.put, List.setIfInBounds_toArray, List.set_cons_zero, List.set_cons_succ, alloc_size]
  generalize (w.alloc (Obj.cells c.arr 24)).alloc (Obj.cells d.arr 24) = W at b1 b2 hB hE ⊢
  obtain ⟨y, hy⟩ : ∃ y, w.heap.size + 1 = y := ⟨_, rfl⟩
  rw [hy] at b2 ⊢
  clear hy
  generalize w.heap.size = z at b1 ⊢
  go_wp2_with (refine load_blk rfl 24 _ rfl b1 rfl Tryd.underlying24 rfl sizeCa ?_)
  refine (pp _ hE).mono ?_
  rintro e w1 ⟨rfl, hb⟩
  replace b1 := b1.below hb
  replace b2 := b2.below hb
  replace hE := hE.next hb
  replace hB := below_next hB hb
  clear hb pp
  go_wp2_with fail
  refine (parse_ok (strB (outC c)) hsz _ hE).mono ?_
  rintro e w2 ⟨⟨o1, ho1, rfl⟩, hb⟩
  rw [bL_strB] at ho1
  replace b1 := b1.below hb
  replace b2 := b2.below hb
  replace hE := hE.next hb
  replace hB := below_next hB hb
  clear hb hsz
  obtain rfl : o1 = some c := IsCall.one ho1 (isCall_out cf.fits hmc)
  clear ho1
  have b3 := blk_new w2 c.arr 24
  have hb := below_box w2 (.cells c.arr 24)
  replace b1 := b1.below hb
  replace b2 := b2.below hb
  replace hE := hE.next hb
  replace hB := below_next hB hb
  clear hb
  go_upto_region 2 with (first | refine alloc_zero zeroCa rfl rfl ?_ | refine store_new rfl 24 _ _ rfl (cells := c.arr) rfl rfl sizeCa rfl (Ca.arr_one _) ?_)
  try simp only [Act.put, List.setIfInBounds_toArray, List.set_cons_zero, List.set_cons_succ]
  generalize w2.alloc (Obj.cells c.arr 24) = W2 at b1 b2 b3 hE hB ⊢
  generalize w2.heap.size = z3 at b3 ⊢
  go_wp2_with fail
  refine (parse_ok s (by omega) _ hE).mono ?_
  rintro e w3 ⟨⟨o2, ho2, rfl⟩, hb⟩
  replace b1 := b1.below hb
  replace b2 := b2.below hb
  replace b3 := b3.below hb
  replace hE := hE.next hb
  replace hB := below_next hB hb
  clear hb
  cases o2 with
  | none =>
    have b4 := blk_new w3 Ca.zero.arr 24
    have hb := below_box w3 (.cells Ca.zero.arr 24)
    replace b1 := b1.below hb
    replace b2 := b2.below hb
    replace b3 := b3.below hb
    replace hE := hE.next hb
    replace hB := below_next hB hb
    clear hb
    go_upto_region 3 with (first | refine alloc_zero zeroCa rfl rfl ?_ | refine store_new rfl 24 _ _ rfl (cells := Ca.zero.arr) rfl rfl sizeCa rfl (Ca.arr_one _) ?_)
    try simp only [Act.put, List.setIfInBounds_toArray, List.set_cons_zero, List.set_cons_succ]
    generalize w3.alloc (Obj.cells Ca.zero.arr 24) = W3 at b1 b2 b3 b4 hE hB ⊢
    generalize w3.heap.size = z4 at b4 ⊢
    have p0 := may_ok c cf
    rw [hmc] at p0
    have nq := neqCa c c true (Ca.same_self c)
    go_wp2_with fail
    refine (fixed_ok _ hE).mono ?_
    rintro e wq ⟨rfl, hb⟩
    replace b1 := b1.below hb
    replace b2 := b2.below hb
    replace b3 := b3.below hb
    replace b4 := b4.below hb
    replace hE := hE.next hb
    replace hB := below_next hB hb
    clear hb
    go_wp2_with (refine load_want (by rfl) 24 _ rfl b1 rfl Tryd.underlying24 rfl sizeCa ?_)
    refine (p0 _ hE).mono ?_
    rintro e wq ⟨rfl, hb⟩
    replace b1 := b1.below hb
    replace b2 := b2.below hb
    replace b3 := b3.below hb
    replace b4 := b4.below hb
    replace hE := hE.next hb
    replace hB := below_next hB hb
    clear hb
    clear p0
    cases hmd : mayC d with
    | true =>
      replace hmd : Hid (mayC d = true) := hmd
      go_upto_region 5 with (first | refine load_want (by rfl) 24 _ rfl b3 rfl Tryd.underlying24 rfl sizeCa ?_ | refine load_want (by rfl) 24 _ rfl b1 rfl Tryd.underlying24 rfl sizeCa ?_)
      try simp only [Act.put, List.setIfInBounds_toArray, List.set_cons_zero, List.set_cons_succ]
      rename World => V
      have p1 := may_ok c cf
      have p2 := may_ok d df
      rw [hmc] at p1
      rw [hmd.out] at p2
      have p3 := print_ok c cf
      have p4 := print_ok d df
      have hEd : ∀ d os, Te (grow (redrawn V d) os) := fun d os => hE.next (below_regrown V d os)
      have l1 : ∀ w', (∃ p : Regrown, w' = grow (redrawn V p.d) p.os) → Blk z c.arr 24 w' := b1.regrown
      have l2 : ∀ w', (∃ p : Regrown, w' = grow (redrawn V p.d) p.os) → Blk y d.arr 24 w' := b2.regrown
      have r1 : ∀ d' os, Calls Tryd.prog 11 #[.agg c.arr] (grow (redrawn V d') os) fun e w'' => e = .returned (.bool true) ∧ ∃ p : Regrown, w'' = grow (redrawn V p.d) p.os := fun d' os => Calls.regrown_of (p1 _ (hEd d' os))
      have r2 : ∀ d' os, Calls Tryd.prog 11 #[.agg d.arr] (grow (redrawn V d') os) fun e w'' => e = .returned (.bool true) ∧ ∃ p : Regrown, w'' = grow (redrawn V p.d) p.os := fun d' os => Calls.regrown_of (p2 _ (hEd d' os))
      have r3 : ∀ d' os, Calls Tryd.prog 13 #[.agg c.arr] (grow (redrawn V d') os) fun e w'' => e = .returned (.string (strB (outC c))) ∧ ∃ p : Regrown, w'' = grow (redrawn V p.d) p.os := fun d' os => Calls.regrown_of (p3 _ (hEd d' os))
      have r4 : ∀ d' os, Calls Tryd.prog 13 #[.agg d.arr] (grow (redrawn V d') os) fun e w'' => e = .returned (.string (strB (outC d))) ∧ ∃ p : Regrown, w'' = grow (redrawn V p.d) p.os := fun d' os => Calls.regrown_of (p4 _ (hEd d' os))
      obtain ⟨m, hm⟩ : ∃ m, Ca.same c d = m := ⟨_, rfl⟩
      have kq := eqlCa c d m hm
      have hd : ((strB (outC c)).toList == (strB (outC d)).toList) = m := by
        apply same_L
        rw [bL_strB, bL_strB, ← hm, outC_may hmc, outC_may hmd.out]
        unfold Ca.same
        by_cases h : c = d
        · subst h
          simp
        · have h2 : printL c ≠ printL d := fun e => h (printL_inj ((mayC_iff c).1 hmc) ((mayC_iff d).1 hmd.out) e)
          have h3 := Ca.same_no h
          unfold Ca.same at h3
          rw [h3]
          simp [h2]
      clear hm
      generalize strB (outC c) = sc at r3 hd
      generalize strB (outC d) = sd at r4 hd
      clear p1 p2 p3 p4
      refine wp_region_quiet_below (by kernel_rfl) (by kernel_rfl) ?_
      repeat (first | (go_big_quiet_want; refine quiet_load rfl rfl l1 Tryd.underlying24 rfl sizeCa ?_; simp only [Act.put, List.setIfInBounds_toArray, List.set_cons_zero, List.set_cons_succ]; go_big_quiet_on) | (go_big_quiet_want; refine quiet_load rfl rfl l2 Tryd.underlying24 rfl sizeCa ?_; simp only [Act.put, List.setIfInBounds_toArray, List.set_cons_zero, List.set_cons_succ]; go_big_quiet_on) | go_big_quiet_step (first | with_reducible exact r1 _ _ | with_reducible exact r2 _ _ | with_reducible exact r3 _ _ | with_reducible exact r4 _ _))
      refine wpQuiet_nil ?_
      intro _ hw'
      obtain ⟨⟨dq, osq⟩, hw''⟩ := hw'
      have hb := below_regrown V dq osq
      replace b4 := b4.below hb
      replace hE := hE.next hb
      replace hB := below_next hB hb
      subst hw''
      clear r1 r2 r3 r4 l1 l2 hEd b1 b2
      generalize grow (redrawn V dq) osq = V5 at b4 hE hB ⊢
      have nq : ∀ w, (binOp .eql 24 (.agg Ca.zero.arr) (.agg #[.int .i64 0, .int .u64 0, .int .u64 0, .int .i64 0, .int .i64 0, .int .i64 0, .string { data := #[] }])).run Tryd.prog w = .ok (.bool true) w := eqlCa Ca.zero Ca.zero true (Ca.same_self _)
      clear ho2
      go_wp2_with (refine load_want (by rfl) 24 _ rfl b4 rfl Tryd.underlying24 rfl sizeCa ?_)
      go_ret
      exact ⟨rfl, hB⟩
    | false =>
      replace hmd : Hid (mayC d = false) := hmd
      go_upto_region 5 with (first | refine load_want (by rfl) 24 _ rfl b3 rfl Tryd.underlying24 rfl sizeCa ?_ | refine load_want (by rfl) 24 _ rfl b1 rfl Tryd.underlying24 rfl sizeCa ?_)
      try simp only [Act.put, List.setIfInBounds_toArray, List.set_cons_zero, List.set_cons_succ]
      rename World => V
      have p1 := may_ok c cf
      have p2 := may_ok d df
      rw [hmc] at p1
      rw [hmd.out] at p2
      have p3 := print_ok c cf
      have p4 := print_ok d df
      have hEd : ∀ d os, Te (grow (redrawn V d) os) := fun d os => hE.next (below_regrown V d os)
      have l1 : ∀ w', (∃ p : Regrown, w' = grow (redrawn V p.d) p.os) → Blk z c.arr 24 w' := b1.regrown
      have l2 : ∀ w', (∃ p : Regrown, w' = grow (redrawn V p.d) p.os) → Blk y d.arr 24 w' := b2.regrown
      have r1 : ∀ d' os, Calls Tryd.prog 11 #[.agg c.arr] (grow (redrawn V d') os) fun e w'' => e = .returned (.bool true) ∧ ∃ p : Regrown, w'' = grow (redrawn V p.d) p.os := fun d' os => Calls.regrown_of (p1 _ (hEd d' os))
      have r2 : ∀ d' os, Calls Tryd.prog 11 #[.agg d.arr] (grow (redrawn V d') os) fun e w'' => e = .returned (.bool false) ∧ ∃ p : Regrown, w'' = grow (redrawn V p.d) p.os := fun d' os => Calls.regrown_of (p2 _ (hEd d' os))
      have r3 : ∀ d' os, Calls Tryd.prog 13 #[.agg c.arr] (grow (redrawn V d') os) fun e w'' => e = .returned (.string (strB (outC c))) ∧ ∃ p : Regrown, w'' = grow (redrawn V p.d) p.os := fun d' os => Calls.regrown_of (p3 _ (hEd d' os))
      have r4 : ∀ d' os, Calls Tryd.prog 13 #[.agg d.arr] (grow (redrawn V d') os) fun e w'' => e = .returned (.string (strB (outC d))) ∧ ∃ p : Regrown, w'' = grow (redrawn V p.d) p.os := fun d' os => Calls.regrown_of (p4 _ (hEd d' os))
      clear p1 p2 p3 p4
      refine wp_region_quiet_below (by kernel_rfl) (by kernel_rfl) ?_
      repeat (first | (go_big_quiet_want; refine quiet_load rfl rfl l1 Tryd.underlying24 rfl sizeCa ?_; simp only [Act.put, List.setIfInBounds_toArray, List.set_cons_zero, List.set_cons_succ]; go_big_quiet_on) | (go_big_quiet_want; refine quiet_load rfl rfl l2 Tryd.underlying24 rfl sizeCa ?_; simp only [Act.put, List.setIfInBounds_toArray, List.set_cons_zero, List.set_cons_succ]; go_big_quiet_on) | go_big_quiet_step (first | with_reducible exact r1 _ _ | with_reducible exact r2 _ _ | with_reducible exact r3 _ _ | with_reducible exact r4 _ _))
      refine wpQuiet_nil ?_
      intro _ hw'
      obtain ⟨⟨dq, osq⟩, hw''⟩ := hw'
      have hb := below_regrown V dq osq
      replace b4 := b4.below hb
      replace hE := hE.next hb
      replace hB := below_next hB hb
      subst hw''
      clear r1 r2 r3 r4 l1 l2 hEd b1 b2
      generalize grow (redrawn V dq) osq = V5 at b4 hE hB ⊢
      have nq : ∀ w, (binOp .eql 24 (.agg Ca.zero.arr) (.agg #[.int .i64 0, .int .u64 0, .int .u64 0, .int .i64 0, .int .i64 0, .int .i64 0, .string { data := #[] }])).run Tryd.prog w = .ok (.bool true) w := eqlCa Ca.zero Ca.zero true (Ca.same_self _)
      clear ho2
      go_wp2_with (refine load_want (by rfl) 24 _ rfl b4 rfl Tryd.underlying24 rfl sizeCa ?_)
      go_ret
      exact ⟨rfl, hB⟩
  | some b =>
    have b4 := blk_new w3 b.arr 24
    have hb := below_box w3 (.cells b.arr 24)
    replace b1 := b1.below hb
    replace b2 := b2.below hb
    replace b3 := b3.below hb
    replace hE := hE.next hb
    replace hB := below_next hB hb
    clear hb
    go_upto_region 3 with (first | refine alloc_zero zeroCa rfl rfl ?_ | refine store_new rfl 24 _ _ rfl (cells := b.arr) rfl rfl sizeCa rfl (Ca.arr_one _) ?_)
    try simp only [Act.put, List.setIfInBounds_toArray, List.set_cons_zero, List.set_cons_succ]
    generalize w3.alloc (Obj.cells b.arr 24) = W3 at b1 b2 b3 b4 hE hB ⊢
    generalize w3.heap.size = z4 at b4 ⊢
    have p0 := may_ok c cf
    rw [hmc] at p0
    have nq := neqCa c c true (Ca.same_self c)
    go_wp2_with fail
    refine (fixed_ok _ hE).mono ?_
    rintro e wq ⟨rfl, hb⟩
    replace b1 := b1.below hb
    replace b2 := b2.below hb
    replace b3 := b3.below hb
    replace b4 := b4.below hb
    replace hE := hE.next hb
    replace hB := below_next hB hb
    clear hb
    go_wp2_with (refine load_want (by rfl) 24 _ rfl b1 rfl Tryd.underlying24 rfl sizeCa ?_)
    refine (p0 _ hE).mono ?_
    rintro e wq ⟨rfl, hb⟩
    replace b1 := b1.below hb
    replace b2 := b2.below hb
    replace b3 := b3.below hb
    replace b4 := b4.below hb
    replace hE := hE.next hb
    replace hB := below_next hB hb
    clear hb
    clear p0
    cases hmd : mayC d with
    | true =>
      replace hmd : Hid (mayC d = true) := hmd
      go_upto_region 5 with (first | refine load_want (by rfl) 24 _ rfl b3 rfl Tryd.underlying24 rfl sizeCa ?_ | refine load_want (by rfl) 24 _ rfl b1 rfl Tryd.underlying24 rfl sizeCa ?_)
      try simp only [Act.put, List.setIfInBounds_toArray, List.set_cons_zero, List.set_cons_succ]
      rename World => V
      have p1 := may_ok c cf
      have p2 := may_ok d df
      rw [hmc] at p1
      rw [hmd.out] at p2
      have p3 := print_ok c cf
      have p4 := print_ok d df
      have hEd : ∀ d os, Te (grow (redrawn V d) os) := fun d os => hE.next (below_regrown V d os)
      have l1 : ∀ w', (∃ p : Regrown, w' = grow (redrawn V p.d) p.os) → Blk z c.arr 24 w' := b1.regrown
      have l2 : ∀ w', (∃ p : Regrown, w' = grow (redrawn V p.d) p.os) → Blk y d.arr 24 w' := b2.regrown
      have r1 : ∀ d' os, Calls Tryd.prog 11 #[.agg c.arr] (grow (redrawn V d') os) fun e w'' => e = .returned (.bool true) ∧ ∃ p : Regrown, w'' = grow (redrawn V p.d) p.os := fun d' os => Calls.regrown_of (p1 _ (hEd d' os))
      have r2 : ∀ d' os, Calls Tryd.prog 11 #[.agg d.arr] (grow (redrawn V d') os) fun e w'' => e = .returned (.bool true) ∧ ∃ p : Regrown, w'' = grow (redrawn V p.d) p.os := fun d' os => Calls.regrown_of (p2 _ (hEd d' os))
      have r3 : ∀ d' os, Calls Tryd.prog 13 #[.agg c.arr] (grow (redrawn V d') os) fun e w'' => e = .returned (.string (strB (outC c))) ∧ ∃ p : Regrown, w'' = grow (redrawn V p.d) p.os := fun d' os => Calls.regrown_of (p3 _ (hEd d' os))
      have r4 : ∀ d' os, Calls Tryd.prog 13 #[.agg d.arr] (grow (redrawn V d') os) fun e w'' => e = .returned (.string (strB (outC d))) ∧ ∃ p : Regrown, w'' = grow (redrawn V p.d) p.os := fun d' os => Calls.regrown_of (p4 _ (hEd d' os))
      obtain ⟨m, hm⟩ : ∃ m, Ca.same c d = m := ⟨_, rfl⟩
      have kq := eqlCa c d m hm
      have hd : ((strB (outC c)).toList == (strB (outC d)).toList) = m := by
        apply same_L
        rw [bL_strB, bL_strB, ← hm, outC_may hmc, outC_may hmd.out]
        unfold Ca.same
        by_cases h : c = d
        · subst h
          simp
        · have h2 : printL c ≠ printL d := fun e => h (printL_inj ((mayC_iff c).1 hmc) ((mayC_iff d).1 hmd.out) e)
          have h3 := Ca.same_no h
          unfold Ca.same at h3
          rw [h3]
          simp [h2]
      clear hm
      generalize strB (outC c) = sc at r3 hd
      generalize strB (outC d) = sd at r4 hd
      clear p1 p2 p3 p4
      refine wp_region_quiet_below (by kernel_rfl) (by kernel_rfl) ?_
      repeat (first | (go_big_quiet_want; refine quiet_load rfl rfl l1 Tryd.underlying24 rfl sizeCa ?_; simp only [Act.put, List.setIfInBounds_toArray, List.set_cons_zero, List.set_cons_succ]; go_big_quiet_on) | (go_big_quiet_want; refine quiet_load rfl rfl l2 Tryd.underlying24 rfl sizeCa ?_; simp only [Act.put, List.setIfInBounds_toArray, List.set_cons_zero, List.set_cons_succ]; go_big_quiet_on) | go_big_quiet_step (first | with_reducible exact r1 _ _ | with_reducible exact r2 _ _ | with_reducible exact r3 _ _ | with_reducible exact r4 _ _))
      refine wpQuiet_nil ?_
      intro _ hw'
      obtain ⟨⟨dq, osq⟩, hw''⟩ := hw'
      have hb := below_regrown V dq osq
      replace b4 := b4.below hb
      replace hE := hE.next hb
      replace hB := below_next hB hb
      subst hw''
      clear r1 r2 r3 r4 l1 l2 hEd b1 b2
      generalize grow (redrawn V dq) osq = V5 at b4 hE hB ⊢
      have fb := fit_of ho2
      have ob := isCall_back ho2
      have pb := may_ok b fb
      rw [ob.1] at pb
      have pq := print_ok b fb
      have hd : ((strB (outC b)).toList == s.toList) = true := by rw [ob.2]; exact same_L _ s true (by rw [bL_strB]; simp)
      generalize strB (outC b) = sb at pq hd
      clear fb ob ho2
      go_wp2_with (refine load_blk rfl 24 _ rfl b4 rfl Tryd.underlying24 rfl sizeCa ?_)
      refine (pb _ hE).mono ?_
      rintro e wq ⟨rfl, hb⟩
      replace b4 := b4.below hb
      replace hE := hE.next hb
      replace hB := below_next hB hb
      clear hb
      clear pb
      go_wp2_with (refine load_want (by rfl) 24 _ rfl b4 rfl Tryd.underlying24 rfl sizeCa ?_)
      refine (pq _ hE).mono ?_
      rintro e wq ⟨rfl, hb⟩
      replace hE := hE.next hb
      replace hB := below_next hB hb
      clear hb
      clear pq
      go_wp2_with fail
      go_ret
      exact ⟨rfl, hB⟩
    | false =>
      replace hmd : Hid (mayC d = false) := hmd
      go_upto_region 5 with (first | refine load_want (by rfl) 24 _ rfl b3 rfl Tryd.underlying24 rfl sizeCa ?_ | refine load_want (by rfl) 24 _ rfl b1 rfl Tryd.underlying24 rfl sizeCa ?_)
      try simp only [Act.put, List.setIfInBounds_toArray, List.set_cons_zero, List.set_cons_succ]
      rename World => V
      have p1 := may_ok c cf
      have p2 := may_ok d df
      rw [hmc] at p1
      rw [hmd.out] at p2
      have p3 := print_ok c cf
      have p4 := print_ok d df
      have hEd : ∀ d os, Te (grow (redrawn V d) os) := fun d os => hE.next (below_regrown V d os)
      have l1 : ∀ w', (∃ p : Regrown, w' = grow (redrawn V p.d) p.os) → Blk z c.arr 24 w' := b1.regrown
      have l2 : ∀ w', (∃ p : Regrown, w' = grow (redrawn V p.d) p.os) → Blk y d.arr 24 w' := b2.regrown
      have r1 : ∀ d' os, Calls Tryd.prog 11 #[.agg c.arr] (grow (redrawn V d') os) fun e w'' => e = .returned (.bool true) ∧ ∃ p : Regrown, w'' = grow (redrawn V p.d) p.os := fun d' os => Calls.regrown_of (p1 _ (hEd d' os))
      have r2 : ∀ d' os, Calls Tryd.prog 11 #[.agg d.arr] (grow (redrawn V d') os) fun e w'' => e = .returned (.bool false) ∧ ∃ p : Regrown, w'' = grow (redrawn V p.d) p.os := fun d' os => Calls.regrown_of (p2 _ (hEd d' os))
      have r3 : ∀ d' os, Calls Tryd.prog 13 #[.agg c.arr] (grow (redrawn V d') os) fun e w'' => e = .returned (.string (strB (outC c))) ∧ ∃ p : Regrown, w'' = grow (redrawn V p.d) p.os := fun d' os => Calls.regrown_of (p3 _ (hEd d' os))
      have r4 : ∀ d' os, Calls Tryd.prog 13 #[.agg d.arr] (grow (redrawn V d') os) fun e w'' => e = .returned (.string (strB (outC d))) ∧ ∃ p : Regrown, w'' = grow (redrawn V p.d) p.os := fun d' os => Calls.regrown_of (p4 _ (hEd d' os))
      clear p1 p2 p3 p4
      refine wp_region_quiet_below (by kernel_rfl) (by kernel_rfl) ?_
      repeat (first | (go_big_quiet_want; refine quiet_load rfl rfl l1 Tryd.underlying24 rfl sizeCa ?_; simp only [Act.put, List.setIfInBounds_toArray, List.set_cons_zero, List.set_cons_succ]; go_big_quiet_on) | (go_big_quiet_want; refine quiet_load rfl rfl l2 Tryd.underlying24 rfl sizeCa ?_; simp only [Act.put, List.setIfInBounds_toArray, List.set_cons_zero, List.set_cons_succ]; go_big_quiet_on) | go_big_quiet_step (first | with_reducible exact r1 _ _ | with_reducible exact r2 _ _ | with_reducible exact r3 _ _ | with_reducible exact r4 _ _))
      refine wpQuiet_nil ?_
      intro _ hw'
      obtain ⟨⟨dq, osq⟩, hw''⟩ := hw'
      have hb := below_regrown V dq osq
      replace b4 := b4.below hb
      replace hE := hE.next hb
      replace hB := below_next hB hb
      subst hw''
      clear r1 r2 r3 r4 l1 l2 hEd b1 b2
      generalize grow (redrawn V dq) osq = V5 at b4 hE hB ⊢
      have fb := fit_of ho2
      have ob := isCall_back ho2
      have pb := may_ok b fb
      rw [ob.1] at pb
      have pq := print_ok b fb
      have hd : ((strB (outC b)).toList == s.toList) = true := by rw [ob.2]; exact same_L _ s true (by rw [bL_strB]; simp)
      generalize strB (outC b) = sb at pq hd
      clear fb ob ho2
      go_wp2_with (refine load_blk rfl 24 _ rfl b4 rfl Tryd.underlying24 rfl sizeCa ?_)
      refine (pb _ hE).mono ?_
      rintro e wq ⟨rfl, hb⟩
      replace b4 := b4.below hb
      replace hE := hE.next hb
      replace hB := below_next hB hb
      clear hb
      clear pb
      go_wp2_with (refine load_want (by rfl) 24 _ rfl b4 rfl Tryd.underlying24 rfl sizeCa ?_)
      refine (pq _ hE).mono ?_
      rintro e wq ⟨rfl, hb⟩
      replace hE := hE.next hb
      replace hB := below_next hB hb
      clear hb
      clear pq
      go_wp2_with fail
      go_ret
      exact ⟨rfl, hB⟩

set_option maxHeartbeats 32000000 in
theorem walk0 (c : Ca) (cf : c.fit) (d : Ca) (df : d.fit) (s : ByteArray) (hs : s.size ≤ 140737488351232) (w : World) (hE : Te w) (hmc : mayC c = false) : Calls Tryd.prog 5 #[.agg c.arr, .agg d.arr, .string s] w fun e w' => e = .returned (.bool true) ∧ Below w.heap.size w w' := by
  have b1 := blk_new w c.arr 24
  have hB := below_box w (.cells c.arr 24)
  have b2 := blk_new (w.alloc (.cells c.arr 24)) d.arr 24
  replace b1 := b1.alloc (.cells d.arr 24)
  replace hB := hB.alloc hB.size (.cells d.arr 24)
  rw [alloc_size] at b2
  replace hE := hE.next hB
  have hsz : (strB (outC c)).size ≤ 140737488355328 := by
    rw [strB_size]
    cases hm : mayC c
    · rw [(outC_iff c).2 hm]; decide
    · rw [outC_may hm, ← writeS_may ((mayC_iff c).1 hm)]; exact writeS_len c cf
  have pp := print_ok c cf
  go_enter Tryd.func5, Tryd.ntmps5
  go_upto_region 1 with fail
  try simp only [Act.put, List.setIfInBounds_toArray, List.set_cons_zero, List.set_cons_succ, alloc_size]
  generalize (w.alloc (Obj.cells c.arr 24)).alloc (Obj.cells d.arr 24) = W at b1 b2 hB hE ⊢
  obtain ⟨y, hy⟩ : ∃ y, w.heap.size + 1 = y := ⟨_, rfl⟩
  rw [hy] at b2 ⊢
  clear hy
  generalize w.heap.size = z at b1 ⊢
  go_wp2_with (refine load_blk rfl 24 _ rfl b1 rfl Tryd.underlying24 rfl sizeCa ?_)
  refine (pp _ hE).mono ?_
  rintro e w1 ⟨rfl, hb⟩
  replace b1 := b1.below hb
  replace b2 := b2.below hb
  replace hE := hE.next hb
  replace hB := below_next hB hb
  clear hb pp
  go_wp2_with fail
  refine (parse_ok (strB (outC c)) hsz _ hE).mono ?_
  rintro e w2 ⟨⟨o1, ho1, rfl⟩, hb⟩
  rw [bL_strB] at ho1
  replace b1 := b1.below hb
  replace b2 := b2.below hb
  replace hE := hE.next hb
  replace hB := below_next hB hb
  clear hb hsz
  obtain rfl : o1 = none := IsCall.one ho1 ((by rw [(outC_iff c).2 hmc]; exact isCall_nil))
  clear ho1
  have b3 := blk_new w2 Ca.zero.arr 24
  have hb := below_box w2 (.cells Ca.zero.arr 24)
  replace b1 := b1.below hb
  replace b2 := b2.below hb
  replace hE := hE.next hb
  replace hB := below_next hB hb
  clear hb
  go_upto_region 2 with (first | refine alloc_zero zeroCa rfl rfl ?_ | refine store_new rfl 24 _ _ rfl (cells := Ca.zero.arr) rfl rfl sizeCa rfl (Ca.arr_one _) ?_)
  try simp only [Act.put, List.setIfInBounds_toArray, List.set_cons_zero, List.set_cons_succ]
  generalize w2.alloc (Obj.cells Ca.zero.arr 24) = W2 at b1 b2 b3 hE hB ⊢
  generalize w2.heap.size = z3 at b3 ⊢
  go_wp2_with fail
  refine (parse_ok s (by omega) _ hE).mono ?_
  rintro e w3 ⟨⟨o2, ho2, rfl⟩, hb⟩
  replace b1 := b1.below hb
  replace b2 := b2.below hb
  replace b3 := b3.below hb
  replace hE := hE.next hb
  replace hB := below_next hB hb
  clear hb
  cases o2 with
  | none =>
    have b4 := blk_new w3 Ca.zero.arr 24
    have hb := below_box w3 (.cells Ca.zero.arr 24)
    replace b1 := b1.below hb
    replace b2 := b2.below hb
    replace b3 := b3.below hb
    replace hE := hE.next hb
    replace hB := below_next hB hb
    clear hb
    go_upto_region 3 with (first | refine alloc_zero zeroCa rfl rfl ?_ | refine store_new rfl 24 _ _ rfl (cells := Ca.zero.arr) rfl rfl sizeCa rfl (Ca.arr_one _) ?_)
    try simp only [Act.put, List.setIfInBounds_toArray, List.set_cons_zero, List.set_cons_succ]
    generalize w3.alloc (Obj.cells Ca.zero.arr 24) = W3 at b1 b2 b3 b4 hE hB ⊢
    generalize w3.heap.size = z4 at b4 ⊢
    have p0 := may_ok c cf
    rw [hmc] at p0
    go_wp2_with fail
    refine (fixed_ok _ hE).mono ?_
    rintro e wq ⟨rfl, hb⟩
    replace b1 := b1.below hb
    replace b2 := b2.below hb
    replace b3 := b3.below hb
    replace b4 := b4.below hb
    replace hE := hE.next hb
    replace hB := below_next hB hb
    clear hb
    go_wp2_with (refine load_want (by rfl) 24 _ rfl b1 rfl Tryd.underlying24 rfl sizeCa ?_)
    refine (p0 _ hE).mono ?_
    rintro e wq ⟨rfl, hb⟩
    replace b1 := b1.below hb
    replace b2 := b2.below hb
    replace b3 := b3.below hb
    replace b4 := b4.below hb
    replace hE := hE.next hb
    replace hB := below_next hB hb
    clear hb
    clear p0
    cases hmd : mayC d with
    | true =>
      replace hmd : Hid (mayC d = true) := hmd
      go_upto_region 5 with fail
      try simp only [Act.put, List.setIfInBounds_toArray, List.set_cons_zero, List.set_cons_succ]
      rename World => V
      have p1 := may_ok c cf
      have p2 := may_ok d df
      rw [hmc] at p1
      rw [hmd.out] at p2
      have p3 := print_ok c cf
      have p4 := print_ok d df
      have hEd : ∀ d os, Te (grow (redrawn V d) os) := fun d os => hE.next (below_regrown V d os)
      have l1 : ∀ w', (∃ p : Regrown, w' = grow (redrawn V p.d) p.os) → Blk z c.arr 24 w' := b1.regrown
      have l2 : ∀ w', (∃ p : Regrown, w' = grow (redrawn V p.d) p.os) → Blk y d.arr 24 w' := b2.regrown
      have r1 : ∀ d' os, Calls Tryd.prog 11 #[.agg c.arr] (grow (redrawn V d') os) fun e w'' => e = .returned (.bool false) ∧ ∃ p : Regrown, w'' = grow (redrawn V p.d) p.os := fun d' os => Calls.regrown_of (p1 _ (hEd d' os))
      have r2 : ∀ d' os, Calls Tryd.prog 11 #[.agg d.arr] (grow (redrawn V d') os) fun e w'' => e = .returned (.bool true) ∧ ∃ p : Regrown, w'' = grow (redrawn V p.d) p.os := fun d' os => Calls.regrown_of (p2 _ (hEd d' os))
      have r3 : ∀ d' os, Calls Tryd.prog 13 #[.agg c.arr] (grow (redrawn V d') os) fun e w'' => e = .returned (.string (strB (outC c))) ∧ ∃ p : Regrown, w'' = grow (redrawn V p.d) p.os := fun d' os => Calls.regrown_of (p3 _ (hEd d' os))
      have r4 : ∀ d' os, Calls Tryd.prog 13 #[.agg d.arr] (grow (redrawn V d') os) fun e w'' => e = .returned (.string (strB (outC d))) ∧ ∃ p : Regrown, w'' = grow (redrawn V p.d) p.os := fun d' os => Calls.regrown_of (p4 _ (hEd d' os))
      clear p1 p2 p3 p4
      refine wp_region_quiet_below (by kernel_rfl) (by kernel_rfl) ?_
      repeat (first | (go_big_quiet_want; refine quiet_load rfl rfl l1 Tryd.underlying24 rfl sizeCa ?_; simp only [Act.put, List.setIfInBounds_toArray, List.set_cons_zero, List.set_cons_succ]; go_big_quiet_on) | (go_big_quiet_want; refine quiet_load rfl rfl l2 Tryd.underlying24 rfl sizeCa ?_; simp only [Act.put, List.setIfInBounds_toArray, List.set_cons_zero, List.set_cons_succ]; go_big_quiet_on) | go_big_quiet_step (first | with_reducible exact r1 _ _ | with_reducible exact r2 _ _ | with_reducible exact r3 _ _ | with_reducible exact r4 _ _))
      refine wpQuiet_nil ?_
      intro _ hw'
      obtain ⟨⟨dq, osq⟩, hw''⟩ := hw'
      have hb := below_regrown V dq osq
      replace b4 := b4.below hb
      replace hE := hE.next hb
      replace hB := below_next hB hb
      subst hw''
      clear r1 r2 r3 r4 l1 l2 hEd b1 b2
      generalize grow (redrawn V dq) osq = V5 at b4 hE hB ⊢
      have nq : ∀ w, (binOp .eql 24 (.agg Ca.zero.arr) (.agg #[.int .i64 0, .int .u64 0, .int .u64 0, .int .i64 0, .int .i64 0, .int .i64 0, .string { data := #[] }])).run Tryd.prog w = .ok (.bool true) w := eqlCa Ca.zero Ca.zero true (Ca.same_self _)
      clear ho2
      go_wp2_with (refine load_want (by rfl) 24 _ rfl b4 rfl Tryd.underlying24 rfl sizeCa ?_)
      go_ret
      exact ⟨rfl, hB⟩
    | false =>
      replace hmd : Hid (mayC d = false) := hmd
      go_upto_region 5 with fail
      try simp only [Act.put, List.setIfInBounds_toArray, List.set_cons_zero, List.set_cons_succ]
      rename World => V
      have p1 := may_ok c cf
      have p2 := may_ok d df
      rw [hmc] at p1
      rw [hmd.out] at p2
      have p3 := print_ok c cf
      have p4 := print_ok d df
      have hEd : ∀ d os, Te (grow (redrawn V d) os) := fun d os => hE.next (below_regrown V d os)
      have l1 : ∀ w', (∃ p : Regrown, w' = grow (redrawn V p.d) p.os) → Blk z c.arr 24 w' := b1.regrown
      have l2 : ∀ w', (∃ p : Regrown, w' = grow (redrawn V p.d) p.os) → Blk y d.arr 24 w' := b2.regrown
      have r1 : ∀ d' os, Calls Tryd.prog 11 #[.agg c.arr] (grow (redrawn V d') os) fun e w'' => e = .returned (.bool false) ∧ ∃ p : Regrown, w'' = grow (redrawn V p.d) p.os := fun d' os => Calls.regrown_of (p1 _ (hEd d' os))
      have r2 : ∀ d' os, Calls Tryd.prog 11 #[.agg d.arr] (grow (redrawn V d') os) fun e w'' => e = .returned (.bool false) ∧ ∃ p : Regrown, w'' = grow (redrawn V p.d) p.os := fun d' os => Calls.regrown_of (p2 _ (hEd d' os))
      have r3 : ∀ d' os, Calls Tryd.prog 13 #[.agg c.arr] (grow (redrawn V d') os) fun e w'' => e = .returned (.string (strB (outC c))) ∧ ∃ p : Regrown, w'' = grow (redrawn V p.d) p.os := fun d' os => Calls.regrown_of (p3 _ (hEd d' os))
      have r4 : ∀ d' os, Calls Tryd.prog 13 #[.agg d.arr] (grow (redrawn V d') os) fun e w'' => e = .returned (.string (strB (outC d))) ∧ ∃ p : Regrown, w'' = grow (redrawn V p.d) p.os := fun d' os => Calls.regrown_of (p4 _ (hEd d' os))
      clear p1 p2 p3 p4
      refine wp_region_quiet_below (by kernel_rfl) (by kernel_rfl) ?_
      repeat (first | (go_big_quiet_want; refine quiet_load rfl rfl l1 Tryd.underlying24 rfl sizeCa ?_; simp only [Act.put, List.setIfInBounds_toArray, List.set_cons_zero, List.set_cons_succ]; go_big_quiet_on) | (go_big_quiet_want; refine quiet_load rfl rfl l2 Tryd.underlying24 rfl sizeCa ?_; simp only [Act.put, List.setIfInBounds_toArray, List.set_cons_zero, List.set_cons_succ]; go_big_quiet_on) | go_big_quiet_step (first | with_reducible exact r1 _ _ | with_reducible exact r2 _ _ | with_reducible exact r3 _ _ | with_reducible exact r4 _ _))
      refine wpQuiet_nil ?_
      intro _ hw'
      obtain ⟨⟨dq, osq⟩, hw''⟩ := hw'
      have hb := below_regrown V dq osq
      replace b4 := b4.below hb
      replace hE := hE.next hb
      replace hB := below_next hB hb
      subst hw''
      clear r1 r2 r3 r4 l1 l2 hEd b1 b2
      generalize grow (redrawn V dq) osq = V5 at b4 hE hB ⊢
      have nq : ∀ w, (binOp .eql 24 (.agg Ca.zero.arr) (.agg #[.int .i64 0, .int .u64 0, .int .u64 0, .int .i64 0, .int .i64 0, .int .i64 0, .string { data := #[] }])).run Tryd.prog w = .ok (.bool true) w := eqlCa Ca.zero Ca.zero true (Ca.same_self _)
      clear ho2
      go_wp2_with (refine load_want (by rfl) 24 _ rfl b4 rfl Tryd.underlying24 rfl sizeCa ?_)
      go_ret
      exact ⟨rfl, hB⟩
  | some b =>
    have b4 := blk_new w3 b.arr 24
    have hb := below_box w3 (.cells b.arr 24)
    replace b1 := b1.below hb
    replace b2 := b2.below hb
    replace b3 := b3.below hb
    replace hE := hE.next hb
    replace hB := below_next hB hb
    clear hb
    go_upto_region 3 with (first | refine alloc_zero zeroCa rfl rfl ?_ | refine store_new rfl 24 _ _ rfl (cells := b.arr) rfl rfl sizeCa rfl (Ca.arr_one _) ?_)
    try simp only [Act.put, List.setIfInBounds_toArray, List.set_cons_zero, List.set_cons_succ]
    generalize w3.alloc (Obj.cells b.arr 24) = W3 at b1 b2 b3 b4 hE hB ⊢
    generalize w3.heap.size = z4 at b4 ⊢
    have p0 := may_ok c cf
    rw [hmc] at p0
    go_wp2_with fail
    refine (fixed_ok _ hE).mono ?_
    rintro e wq ⟨rfl, hb⟩
    replace b1 := b1.below hb
    replace b2 := b2.below hb
    replace b3 := b3.below hb
    replace b4 := b4.below hb
    replace hE := hE.next hb
    replace hB := below_next hB hb
    clear hb
    go_wp2_with (refine load_want (by rfl) 24 _ rfl b1 rfl Tryd.underlying24 rfl sizeCa ?_)
    refine (p0 _ hE).mono ?_
    rintro e wq ⟨rfl, hb⟩
    replace b1 := b1.below hb
    replace b2 := b2.below hb
    replace b3 := b3.below hb
    replace b4 := b4.below hb
    replace hE := hE.next hb
    replace hB := below_next hB hb
    clear hb
    clear p0
    cases hmd : mayC d with
    | true =>
      replace hmd : Hid (mayC d = true) := hmd
      go_upto_region 5 with fail
      try simp only [Act.put, List.setIfInBounds_toArray, List.set_cons_zero, List.set_cons_succ]
      rename World => V
      have p1 := may_ok c cf
      have p2 := may_ok d df
      rw [hmc] at p1
      rw [hmd.out] at p2
      have p3 := print_ok c cf
      have p4 := print_ok d df
      have hEd : ∀ d os, Te (grow (redrawn V d) os) := fun d os => hE.next (below_regrown V d os)
      have l1 : ∀ w', (∃ p : Regrown, w' = grow (redrawn V p.d) p.os) → Blk z c.arr 24 w' := b1.regrown
      have l2 : ∀ w', (∃ p : Regrown, w' = grow (redrawn V p.d) p.os) → Blk y d.arr 24 w' := b2.regrown
      have r1 : ∀ d' os, Calls Tryd.prog 11 #[.agg c.arr] (grow (redrawn V d') os) fun e w'' => e = .returned (.bool false) ∧ ∃ p : Regrown, w'' = grow (redrawn V p.d) p.os := fun d' os => Calls.regrown_of (p1 _ (hEd d' os))
      have r2 : ∀ d' os, Calls Tryd.prog 11 #[.agg d.arr] (grow (redrawn V d') os) fun e w'' => e = .returned (.bool true) ∧ ∃ p : Regrown, w'' = grow (redrawn V p.d) p.os := fun d' os => Calls.regrown_of (p2 _ (hEd d' os))
      have r3 : ∀ d' os, Calls Tryd.prog 13 #[.agg c.arr] (grow (redrawn V d') os) fun e w'' => e = .returned (.string (strB (outC c))) ∧ ∃ p : Regrown, w'' = grow (redrawn V p.d) p.os := fun d' os => Calls.regrown_of (p3 _ (hEd d' os))
      have r4 : ∀ d' os, Calls Tryd.prog 13 #[.agg d.arr] (grow (redrawn V d') os) fun e w'' => e = .returned (.string (strB (outC d))) ∧ ∃ p : Regrown, w'' = grow (redrawn V p.d) p.os := fun d' os => Calls.regrown_of (p4 _ (hEd d' os))
      clear p1 p2 p3 p4
      refine wp_region_quiet_below (by kernel_rfl) (by kernel_rfl) ?_
      repeat (first | (go_big_quiet_want; refine quiet_load rfl rfl l1 Tryd.underlying24 rfl sizeCa ?_; simp only [Act.put, List.setIfInBounds_toArray, List.set_cons_zero, List.set_cons_succ]; go_big_quiet_on) | (go_big_quiet_want; refine quiet_load rfl rfl l2 Tryd.underlying24 rfl sizeCa ?_; simp only [Act.put, List.setIfInBounds_toArray, List.set_cons_zero, List.set_cons_succ]; go_big_quiet_on) | go_big_quiet_step (first | with_reducible exact r1 _ _ | with_reducible exact r2 _ _ | with_reducible exact r3 _ _ | with_reducible exact r4 _ _))
      refine wpQuiet_nil ?_
      intro _ hw'
      obtain ⟨⟨dq, osq⟩, hw''⟩ := hw'
      have hb := below_regrown V dq osq
      replace b4 := b4.below hb
      replace hE := hE.next hb
      replace hB := below_next hB hb
      subst hw''
      clear r1 r2 r3 r4 l1 l2 hEd b1 b2
      generalize grow (redrawn V dq) osq = V5 at b4 hE hB ⊢
      have fb := fit_of ho2
      have ob := isCall_back ho2
      have pb := may_ok b fb
      rw [ob.1] at pb
      have pq := print_ok b fb
      have hd : ((strB (outC b)).toList == s.toList) = true := by rw [ob.2]; exact same_L _ s true (by rw [bL_strB]; simp)
      generalize strB (outC b) = sb at pq hd
      clear fb ob ho2
      go_wp2_with (refine load_blk rfl 24 _ rfl b4 rfl Tryd.underlying24 rfl sizeCa ?_)
      refine (pb _ hE).mono ?_
      rintro e wq ⟨rfl, hb⟩
      replace b4 := b4.below hb
      replace hE := hE.next hb
      replace hB := below_next hB hb
      clear hb
      clear pb
      go_wp2_with (refine load_want (by rfl) 24 _ rfl b4 rfl Tryd.underlying24 rfl sizeCa ?_)
      refine (pq _ hE).mono ?_
      rintro e wq ⟨rfl, hb⟩
      replace hE := hE.next hb
      replace hB := below_next hB hb
      clear hb
      clear pq
      go_wp2_with fail
      go_ret
      exact ⟨rfl, hB⟩
    | false =>
      replace hmd : Hid (mayC d = false) := hmd
      go_upto_region 5 with fail
      try simp only [Act.put, List.setIfInBounds_toArray, List.set_cons_zero, List.set_cons_succ]
      rename World => V
      have p1 := may_ok c cf
      have p2 := may_ok d df
      rw [hmc] at p1
      rw [hmd.out] at p2
      have p3 := print_ok c cf
      have p4 := print_ok d df
      have hEd : ∀ d os, Te (grow (redrawn V d) os) := fun d os => hE.next (below_regrown V d os)
      have l1 : ∀ w', (∃ p : Regrown, w' = grow (redrawn V p.d) p.os) → Blk z c.arr 24 w' := b1.regrown
      have l2 : ∀ w', (∃ p : Regrown, w' = grow (redrawn V p.d) p.os) → Blk y d.arr 24 w' := b2.regrown
      have r1 : ∀ d' os, Calls Tryd.prog 11 #[.agg c.arr] (grow (redrawn V d') os) fun e w'' => e = .returned (.bool false) ∧ ∃ p : Regrown, w'' = grow (redrawn V p.d) p.os := fun d' os => Calls.regrown_of (p1 _ (hEd d' os))
      have r2 : ∀ d' os, Calls Tryd.prog 11 #[.agg d.arr] (grow (redrawn V d') os) fun e w'' => e = .returned (.bool false) ∧ ∃ p : Regrown, w'' = grow (redrawn V p.d) p.os := fun d' os => Calls.regrown_of (p2 _ (hEd d' os))
      have r3 : ∀ d' os, Calls Tryd.prog 13 #[.agg c.arr] (grow (redrawn V d') os) fun e w'' => e = .returned (.string (strB (outC c))) ∧ ∃ p : Regrown, w'' = grow (redrawn V p.d) p.os := fun d' os => Calls.regrown_of (p3 _ (hEd d' os))
      have r4 : ∀ d' os, Calls Tryd.prog 13 #[.agg d.arr] (grow (redrawn V d') os) fun e w'' => e = .returned (.string (strB (outC d))) ∧ ∃ p : Regrown, w'' = grow (redrawn V p.d) p.os := fun d' os => Calls.regrown_of (p4 _ (hEd d' os))
      clear p1 p2 p3 p4
      refine wp_region_quiet_below (by kernel_rfl) (by kernel_rfl) ?_
      repeat (first | (go_big_quiet_want; refine quiet_load rfl rfl l1 Tryd.underlying24 rfl sizeCa ?_; simp only [Act.put, List.setIfInBounds_toArray, List.set_cons_zero, List.set_cons_succ]; go_big_quiet_on) | (go_big_quiet_want; refine quiet_load rfl rfl l2 Tryd.underlying24 rfl sizeCa ?_; simp only [Act.put, List.setIfInBounds_toArray, List.set_cons_zero, List.set_cons_succ]; go_big_quiet_on) | go_big_quiet_step (first | with_reducible exact r1 _ _ | with_reducible exact r2 _ _ | with_reducible exact r3 _ _ | with_reducible exact r4 _ _))
      refine wpQuiet_nil ?_
      intro _ hw'
      obtain ⟨⟨dq, osq⟩, hw''⟩ := hw'
      have hb := below_regrown V dq osq
      replace b4 := b4.below hb
      replace hE := hE.next hb
      replace hB := below_next hB hb
      subst hw''
      clear r1 r2 r3 r4 l1 l2 hEd b1 b2
      generalize grow (redrawn V dq) osq = V5 at b4 hE hB ⊢
      have fb := fit_of ho2
      have ob := isCall_back ho2
      have pb := may_ok b fb
      rw [ob.1] at pb
      have pq := print_ok b fb
      have hd : ((strB (outC b)).toList == s.toList) = true := by rw [ob.2]; exact same_L _ s true (by rw [bL_strB]; simp)
      generalize strB (outC b) = sb at pq hd
      clear fb ob ho2
      go_wp2_with (refine load_blk rfl 24 _ rfl b4 rfl Tryd.underlying24 rfl sizeCa ?_)
      refine (pb _ hE).mono ?_
      rintro e wq ⟨rfl, hb⟩
      replace b4 := b4.below hb
      replace hE := hE.next hb
      replace hB := below_next hB hb
      clear hb
      clear pb
      go_wp2_with (refine load_want (by rfl) 24 _ rfl b4 rfl Tryd.underlying24 rfl sizeCa ?_)
      refine (pq _ hE).mono ?_
      rintro e wq ⟨rfl, hb⟩
      replace hE := hE.next hb
      replace hB := below_next hB hb
      clear hb
      clear pq
      go_wp2_with fail
      go_ret
      exact ⟨rfl, hB⟩

theorem walk (c : Ca) (cf : c.fit) (d : Ca) (df : d.fit) (s : ByteArray) (hs : s.size ≤ 140737488351232) (w : World) (hE : Te w) : Calls Tryd.prog 5 #[.agg c.arr, .agg d.arr, .string s] w fun e w' => e = .returned (.bool true) ∧ Below w.heap.size w w' := by
  cases hm : mayC c with
  | true => exact walk1 c cf d df s hs w hE hm
  | false => exact walk0 c cf d df s hs w hE hm


theorem laid_met (os : Os) : laidMetH Tryd.prog Rows.parseBackRow.laid ((World.laidAll Tryd.prog os Rows.parseBackRow.laid).forCall (fun _ _ => 0) ⟨#[], #[.agg Ca.zero.arr, .agg Ca.zero.arr, .string ByteArray.empty], []⟩).memory := by
  rw [MakeChecks.laidMetH_plain _ _ _ (by kernel_rfl)]
  exact laidMet_laidAll _ (by kernel_rfl) (by kernel_rfl)
def wdata (H : Type) : List (DataW H) := [.agg [.lit (.int .i64 0), .lit (.int .u64 0), .lit (.int .u64 0), .lit (.int .i64 0), .lit (.int .i64 0), .lit (.int .i64 0), .lit (.string [])], .agg [.lit (.int .i64 0), .lit (.int .u64 0), .lit (.int .u64 0), .lit (.int .i64 0), .lit (.int .i64 0), .lit (.int .i64 0), .lit (.string [])], .lit (.string [])]
theorem reads (os : Os) {H : Type} (enc : TypeId × Value → H) : ∃ places, DataW.whole enc Tryd.prog ((World.laidAll Tryd.prog os Rows.parseBackRow.laid).forCall (fun _ _ => 0) ⟨#[], #[.agg Ca.zero.arr, .agg Ca.zero.arr, .string ByteArray.empty], []⟩).memory Tryd.f5.params.toList (OpenSpec.ofChange Rows.parseBackSpec).vars false (#[.agg Ca.zero.arr, .agg Ca.zero.arr, .string ByteArray.empty] : Array Value).toList 8 = some (wdata H, [], places) :=
  ⟨[], by kernel_rfl⟩

set_option maxRecDepth 100000 in
theorem lifted (os : Os) (started : os.Started) (H : Type) (enc : TypeId × Value → H) (F : Stop.Interp) :
    ReturnsInHanded {} Tryd.checked os 5 .any ((OpenSpec.ofChange Rows.parseBackSpec).preRow enc Tryd.prog Tryd.f5 Rows.parseBackRow.domain false Rows.parseBackRow.laid) (((OpenSpec.ofChange Rows.parseBackSpec).at F).post enc Tryd.prog Tryd.f5 false true false false) := by
  obtain ⟨places, hx⟩ := reads os enc
  refine returnsInHanded_of_row (C := Tryd.checked) (s := OpenSpec.ofChange Rows.parseBackSpec) own started (by kernel_rfl) Tryd.func5
    (witness_row_atRef (enc := enc) (C := Tryd.checked) false (World.laidAll Tryd.prog os Rows.parseBackRow.laid) #[.agg Ca.zero.arr, .agg Ca.zero.arr, .string ByteArray.empty] (World.laidAll_os _ _ _) (by kernel_rfl) (by kernel_rfl) (by kernel_rfl)
      (OpenSpec.preRow_of_cond 8 hx (by kernel_rfl) (fun k hk => by cases hk) (by kernel_rfl) (laid_met os))) ?_
  intro W base args ds gs before hval0 hW hcnd hcond hsz0 hL0 hsh _
  have hL := hL0
  rw [MakeChecks.laidMetH_plain _ _ _ (by kernel_rfl)] at hL
  have hval : ∀ (j : Nat) t v, Tryd.f5.params[j]? = some t → args[j]? = some v → Value.okWide Tryd.prog W .any base t v := hval0
  have hsz : (DataW.weightsEach Tryd.prog (Tryd.f5.params.toList ++ Rows.parseBackSpec.plain.varTypes Tryd.prog) (ds ++ gs)).all (· ≤ reachBytes) = true := hsz0
  have hW' := hW
  obtain ⟨p, q, hA0, hV, rfl, hfz, hnd⟩ := hW
  have hA : DataW.TrodAll enc Tryd.prog W 0 (fun _ => true) true Tryd.f5.params.toList args.toList ds p := hA0
  rw [Tryd.params5] at hA hval hsz
  obtain ⟨v0, vs0, d0, ds0, p0, q0, hargs, rfl, rfl, h0, r0⟩ := trodAll_cons hA
  obtain ⟨v1, vs1, d1, ds1, p1, q1, rfl, rfl, rfl, h1, r1⟩ := trodAll_cons r0
  obtain ⟨v2, vs2, d2, ds2, p2, q2, rfl, rfl, rfl, h2, r2⟩ := trodAll_cons r1
  obtain ⟨rfl, rfl, rfl⟩ := trodAll_nil r2
  obtain rfl : args = #[v0, v1, v2] := by cases args; simp_all
  obtain ⟨rfl, rfl⟩ := trodVars_none hV
  obtain ⟨x0, rfl, kx0⟩ := open_Ca (by obtain ⟨cs, h1, _⟩ := okWide_struct Tryd.underlying24 (hval 0 24 v0 rfl rfl); exact ⟨cs, h1⟩) (fun n hn => of_decide_eq_true (List.all_eq_true.1 hsz _ (DataW.weights_mem_each (j := 0) rfl rfl n hn))) h0
  obtain ⟨x1, rfl, kx1⟩ := open_Ca (by obtain ⟨cs, h1, _⟩ := okWide_struct Tryd.underlying24 (hval 1 24 v1 rfl rfl); exact ⟨cs, h1⟩) (fun n hn => of_decide_eq_true (List.all_eq_true.1 hsz _ (DataW.weights_mem_each (j := 1) rfl rfl n hn))) h1
  obtain ⟨a2, rfl, rfl, rfl, w2⟩ := open_string Tryd.underlying9 (hval 2 9 v2 rfl rfl) h2
  have z2 : a2.size ≤ 140737488351232 := by
    have := (fun n hn => of_decide_eq_true (List.all_eq_true.1 hsz _ (DataW.weights_mem_each (j := 2) rfl rfl n hn))) a2.data.toList.length (by simp [DataW.weights])
    rw [Array.length_toList] at this
    exact this
  have hE : Te W := te_of hL
  have hA2 := hA0
  clear hA0 hval0 hsz0
  simp only [List.append_nil] at hW'
  refine (walk x0 kx0 x1 kx1 a2 z2 W hE).mono fun e W' ⟨he, bel⟩ => ?_
  subst he
  exact ⟨_, rfl, _, _, _, [], _, [], hW', trodAll_mk1 (shut_bool Tryd.underlying4 _), (stays_all laidOut bel (by kernel_rfl) hA2), rfl, bel.frame _, fun h => by cases h⟩

theorem said : Rows.ParseBackSaid :=
  OpenClaim.holds_of_cond 5 Tryd.f5 rfl rfl rfl rfl rfl rfl rfl ⟨rfl, rfl, rfl, rfl, rfl⟩ rfl rfl rfl rfl rfl (by kernel_rfl) Tryd.func5 (by kernel_rfl)
    (of_decide_eq_true (by kernel_rfl)) (by unfold Func.isWrapper; first | (rw [if_pos (by decide +kernel)]; kernel_rfl) | (rw [if_neg (by decide +kernel)]; exact ⟨rfl, rfl⟩))
    (fun os started H enc _ F => by rw [OpenClaim.pre_eq_preRow]; exact lifted os started H enc F)

theorem plain (f : FuncId) (fn : Func) (hf : Tryd.pinned.checked.prog.funcNamed "congress/congresslaw21.ParseBack" = some f) (hfn : Tryd.pinned.checked.prog.funcs[f]? = some fn) :
    true = Tryd.pinned.checked.prog.looks [] ∧ ∀ (j : Nat) t, fn.params[j]? = some t → Tryd.pinned.checked.prog.wantsStandIn t = false := by
  obtain rfl : f = 5 := Option.some.inj ((show Tryd.prog.funcNamed "congress/congresslaw21.ParseBack" = some 5 by kernel_rfl).symm.trans hf) |>.symm
  obtain rfl : fn = Tryd.f5 := (Option.some.inj (Tryd.func5.symm.trans hfn)).symm
  refine ⟨by kernel_rfl, fun j t ht => ?_⟩
  rw [Tryd.params5] at ht
  have hm : t ∈ [24, 24, 9] := by simpa using Array.mem_of_getElem? ht
  have hall : ([24, 24, 9].all fun u => !Tryd.prog.wantsStandIn u) = true := by kernel_rfl
  have := List.all_eq_true.1 hall t hm
  show Tryd.prog.wantsStandIn t = false
  simpa using this

theorem card : Rows.ParseBackCardSaid :=
  Claim7.holds_tied_plain_at .later [] _ _ _ _ said (fun _ h => by cases h) (by kernel_rfl) (fun _ h => by cases h) parseBack_row_tie rfl ⟨rfl, rfl⟩ (by kernel_rfl) rfl plain (by kernel_rfl)

end Go.Proofs.YtiepdfngjfhadaaDoor.parseBack
namespace Go.Proofs.YtiepdfngjfhadaaDoor

theorem parseBack_holds : Rows.ParseBackCardSaid := parseBack.card
#print axioms parseBack_holds

end Go.Proofs.YtiepdfngjfhadaaDoor
