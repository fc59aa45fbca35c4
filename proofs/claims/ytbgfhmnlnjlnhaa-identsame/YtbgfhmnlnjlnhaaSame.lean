/-
  Who is in two members is so whichever comes first; with themselves they are themselves; three, in any order, lead to the same: the law IdentSame returns true for every input.
  No condition beyond the form's own.
-/
import Derived.Test.YtbgfhmnlnjlnhaaRows
import Derived.Test.YtbgfhmnlnjlnhaaImN
import Derived.WalkKit
import Derived.ProofKit
import Derived.OpenShut
import Derived.ShutString
import Derived.SizedLaws
import Derived.ChangeOld
import Derived.Below
namespace Go.Proofs.Ytbgfhmnlnjlnhaa.identSame
open Go.Sort Go.ChangeShapes Go.WideShapes Go.ChangeAt Go.RowKit
open Go.ChangeMaps (open_string shut_string)
set_option linter.unusedVariables false
set_option maxRecDepth 10000

theorem own : ownKnob Try.prog.godebug = none := by kernel_rfl
theorem length_bytes (s : ByteArray) : s.data.toList.length = s.size := by rw [Array.length_toList]; rfl

def Cut (w W : World) (a b c : Nat → Nat) (pv : Value) (wx : World) : Prop :=
  ∃ p, pv = .pointer (some ⟨p, 0, none⟩) ∧ Blk p (mbc (sameM (sameM a b) c)) 26 wx ∧ (Blk w.heap.size (mbc a) 26 wx ∧ Blk (w.heap.size + 1) (mbc b) 26 wx ∧ Blk (w.heap.size + 1 + 1) (mbc c) 26 wx) ∧ Below W.heap.size W wx

set_option maxHeartbeats 8000000 in
theorem walk (a b c : Nat → Nat) (w : World) : Calls Try.prog 6 #[.agg (mbc a), .agg (mbc b), .agg (mbc c)] w fun e w' => e = .returned (.bool true) ∧ Below w.heap.size w w' := by
  obtain ⟨W, hW⟩ : ∃ W, ((w.alloc (.cells (mbc a) 26)).alloc (.cells (mbc b) 26)).alloc (.cells (mbc c) 26) = W := ⟨_, rfl⟩
  obtain ⟨a1, a2, a3, hB⟩ := three_blk hW
  have hl := a3.lt
  have hC0 : Below W.heap.size W W.drew := (Below.refl _ _).drew
  go_enter Try.func6, Try.ntmps6
  go_upto_region 1 with fail
  go_cut [7] from 8 to 12 (fun pv wx => Cut w W a b c pv wx)
  case first =>
    refine wp_region_held_drew (S := fun w' => Blk w.heap.size (mbc a) 26 w' ∧ Blk (w.heap.size + 1) (mbc b) 26 w' ∧ Blk (w.heap.size + 1 + 1) (mbc c) 26 w') (by kernel_rfl) ⟨a1, a2, a3⟩ (fun hHeld => ?_)
    refine' wpAnyH_take (i := 0) (v := _) rfl (by kernel_rfl) (by kernel_rfl) (by kernel_rfl) (fun _ _ _ h => h) (yieldsIf_load_mid (by rfl) _ _ rfl w.heap.size 0 rfl (row8 a) _ ?hS1 Try.underlying26 rfl sizeMb) hHeld ?rest1
    case hS1 => exact fun w h => h.1.whole
    try simp only [List.getElem_toArray]
    try simp only [List.getElem_cons_succ]
    try simp only [List.getElem_cons_zero]
    try simp only [Act.put]
    try simp only [List.setIfInBounds_toArray]
    try simp only [List.set_cons_succ]
    try simp only [List.set_cons_zero]
    refine' wpAnyH_take (i := 1) (v := _) rfl (by kernel_rfl) (by kernel_rfl) (by kernel_rfl) (fun _ _ _ h => h) (yieldsIf_load_mid (by rfl) _ _ rfl (w.heap.size + 1) 0 rfl (row8 b) _ ?hS2 Try.underlying26 rfl sizeMb) hHeld ?rest2
    case hS2 => exact fun w h => h.2.1.whole
    try simp only [List.getElem_toArray]
    try simp only [List.getElem_cons_succ]
    try simp only [List.getElem_cons_zero]
    try simp only [Act.put]
    try simp only [List.setIfInBounds_toArray]
    try simp only [List.set_cons_succ]
    try simp only [List.set_cons_zero]
    refine' wpAnyH_take (i := 3) (v := _) rfl (by kernel_rfl) (by kernel_rfl) (by kernel_rfl) (fun _ _ _ h => h) (yieldsIf_load_mid (by rfl) _ _ rfl (w.heap.size + 1 + 1) 0 rfl (row8 c) _ ?hS3 Try.underlying26 rfl sizeMb) hHeld ?rest3
    case hS3 => exact fun w h => h.2.2.whole
    try simp only [List.getElem_toArray]
    try simp only [List.getElem_cons_succ]
    try simp only [List.getElem_cons_zero]
    try simp only [Act.put]
    try simp only [List.setIfInBounds_toArray]
    try simp only [List.set_cons_succ]
    try simp only [List.set_cons_zero]
    refine wpAnyH_ready (rs := [2, 5]) (by kernel_rfl) (by simp) ?_
    refine AllReadyH.cons rfl (fun K hK => ?_) (AllReadyH.cons rfl (fun K hK => ?_) (AllReadyH.nil))
    · go_simp
      go_wp2_with (refine (same_ok a b _).mono ?_; rintro r u1 ⟨rfl, hb⟩)
      have hC1 := hC0.trans (hb.mono hC0.size)
      refine hK.out _ _ ⟨hHeld.1.below hb, hHeld.2.1.below hb, hHeld.2.2.below hb⟩ (fun hHeld => ?_)
      clear hK K hb hC0
      refine wpAnyH_ready (rs := [4, 5]) (by kernel_rfl) (by simp) ?_
      refine AllReadyH.cons rfl (fun K hK => ?_) (AllReadyH.cons rfl (fun K hK => ?_) (AllReadyH.nil))
      · go_simp
        go_wp2_with (refine (same_ok (sameM a b) c _).mono ?_; rintro r u2 ⟨rfl, hb⟩)
        have hC2 := hC1.trans (hb.mono hC1.size)
        refine hK.out _ _ ⟨hHeld.1.below hb, hHeld.2.1.below hb, hHeld.2.2.below hb⟩ (fun hHeld => ?_)
        clear hK K hb hC1
        refine wpAnyH_ready (rs := [5]) (by kernel_rfl) (by simp) ?_
        refine AllReadyH.cons rfl (fun K hK => ?_) (AllReadyH.nil)
        rw [if_pos (by rfl)]
        refine wp_alloc_any zeroMb rfl ?_
        intro xp u3 x3 hb xl xt
        have xg := Nat.le_trans hC2.size xl
        have hC3 := hC2.trans (hb.mono hC2.size)
        refine hK.out _ _ ⟨hHeld.1.below hb, hHeld.2.1.below hb, hHeld.2.2.below hb⟩ (fun hHeld => ?_)
        clear hK K hb hC2
        try simp only [List.getElem_toArray]
        try simp only [List.getElem_cons_succ]
        try simp only [List.getElem_cons_zero]
        try simp only [Act.put]
        try simp only [List.setIfInBounds_toArray]
        try simp only [List.set_cons_succ]
        try simp only [List.set_cons_zero]
        refine wpAnyH_ready (rs := [6]) (by kernel_rfl) (by simp) ?_
        refine AllReadyH.cons rfl (fun K hK => ?_) (AllReadyH.nil)
        rw [if_pos (by rfl)]
        refine wp_store_all 26 _ _ rfl (cells := mbc (sameM (sameM a b) c)) x3 rfl rfl sizeMb rfl (mbc_one _) ?_
        intro u4 hn hk
        have hC4 := hC3.trans (hk.below (by simp; omega) hC3.size)
        have x4 := hn
        refine hK.out _ _ ⟨hHeld.1.kp hk (by simp; omega), hHeld.2.1.kp hk (by simp; omega), hHeld.2.2.kp hk (by simp; omega)⟩ (fun hHeld => ?_)
        clear hK K hk hn hC3 x3
        try simp only [List.getElem_toArray]
        try simp only [List.getElem_cons_succ]
        try simp only [List.getElem_cons_zero]
        try simp only [Act.put]
        try simp only [List.setIfInBounds_toArray]
        try simp only [List.set_cons_succ]
        try simp only [List.set_cons_zero]
        refine wpAnyH_done (by kernel_rfl) ?_ _
        go_wp2_with fail
        go_meet
        exact ⟨xp, rfl, x4, hHeld, hC4⟩
      · rw [if_pos (by rfl)]
        refine wp_alloc_any zeroMb rfl ?_
        intro xp u5 x2 hb xl xt
        have xg := Nat.le_trans hC1.size xl
        have hC2 := hC1.trans (hb.mono hC1.size)
        refine hK.out _ _ ⟨hHeld.1.below hb, hHeld.2.1.below hb, hHeld.2.2.below hb⟩ (fun hHeld => ?_)
        clear hK K hb hC1
        try simp only [List.getElem_toArray]
        try simp only [List.getElem_cons_succ]
        try simp only [List.getElem_cons_zero]
        try simp only [Act.put]
        try simp only [List.setIfInBounds_toArray]
        try simp only [List.set_cons_succ]
        try simp only [List.set_cons_zero]
        refine wpAnyH_ready (rs := [4]) (by kernel_rfl) (by simp) ?_
        refine AllReadyH.cons rfl (fun K hK => ?_) (AllReadyH.nil)
        go_simp
        go_wp2_with (refine (same_ok (sameM a b) c _).mono ?_; rintro r u6 ⟨rfl, hb⟩)
        have hC3 := hC2.trans (hb.mono hC2.size)
        have x3 := x2.below hb
        refine hK.out _ _ ⟨hHeld.1.below hb, hHeld.2.1.below hb, hHeld.2.2.below hb⟩ (fun hHeld => ?_)
        clear hK K hb hC2 x2
        refine wpAnyH_ready (rs := [6]) (by kernel_rfl) (by simp) ?_
        refine AllReadyH.cons rfl (fun K hK => ?_) (AllReadyH.nil)
        rw [if_pos (by rfl)]
        refine wp_store_all 26 _ _ rfl (cells := mbc (sameM (sameM a b) c)) x3 rfl rfl sizeMb rfl (mbc_one _) ?_
        intro u7 hn hk
        have hC4 := hC3.trans (hk.below (by simp; omega) hC3.size)
        have x4 := hn
        refine hK.out _ _ ⟨hHeld.1.kp hk (by simp; omega), hHeld.2.1.kp hk (by simp; omega), hHeld.2.2.kp hk (by simp; omega)⟩ (fun hHeld => ?_)
        clear hK K hk hn hC3 x3
        try simp only [List.getElem_toArray]
        try simp only [List.getElem_cons_succ]
        try simp only [List.getElem_cons_zero]
        try simp only [Act.put]
        try simp only [List.setIfInBounds_toArray]
        try simp only [List.set_cons_succ]
        try simp only [List.set_cons_zero]
        refine wpAnyH_done (by kernel_rfl) ?_ _
        go_wp2_with fail
        go_meet
        exact ⟨xp, rfl, x4, hHeld, hC4⟩
    · rw [if_pos (by rfl)]
      refine wp_alloc_any zeroMb rfl ?_
      intro xp u8 x1 hb xl xt
      have xg := Nat.le_trans hC0.size xl
      have hC1 := hC0.trans (hb.mono hC0.size)
      refine hK.out _ _ ⟨hHeld.1.below hb, hHeld.2.1.below hb, hHeld.2.2.below hb⟩ (fun hHeld => ?_)
      clear hK K hb hC0
      try simp only [List.getElem_toArray]
      try simp only [List.getElem_cons_succ]
      try simp only [List.getElem_cons_zero]
      try simp only [Act.put]
      try simp only [List.setIfInBounds_toArray]
      try simp only [List.set_cons_succ]
      try simp only [List.set_cons_zero]
      refine wpAnyH_ready (rs := [2]) (by kernel_rfl) (by simp) ?_
      refine AllReadyH.cons rfl (fun K hK => ?_) (AllReadyH.nil)
      go_simp
      go_wp2_with (refine (same_ok a b _).mono ?_; rintro r u9 ⟨rfl, hb⟩)
      have hC2 := hC1.trans (hb.mono hC1.size)
      have x2 := x1.below hb
      refine hK.out _ _ ⟨hHeld.1.below hb, hHeld.2.1.below hb, hHeld.2.2.below hb⟩ (fun hHeld => ?_)
      clear hK K hb hC1 x1
      refine wpAnyH_ready (rs := [4]) (by kernel_rfl) (by simp) ?_
      refine AllReadyH.cons rfl (fun K hK => ?_) (AllReadyH.nil)
      go_simp
      go_wp2_with (refine (same_ok (sameM a b) c _).mono ?_; rintro r u10 ⟨rfl, hb⟩)
      have hC3 := hC2.trans (hb.mono hC2.size)
      have x3 := x2.below hb
      refine hK.out _ _ ⟨hHeld.1.below hb, hHeld.2.1.below hb, hHeld.2.2.below hb⟩ (fun hHeld => ?_)
      clear hK K hb hC2 x2
      refine wpAnyH_ready (rs := [6]) (by kernel_rfl) (by simp) ?_
      refine AllReadyH.cons rfl (fun K hK => ?_) (AllReadyH.nil)
      rw [if_pos (by rfl)]
      refine wp_store_all 26 _ _ rfl (cells := mbc (sameM (sameM a b) c)) x3 rfl rfl sizeMb rfl (mbc_one _) ?_
      intro u11 hn hk
      have hC4 := hC3.trans (hk.below (by simp; omega) hC3.size)
      have x4 := hn
      refine hK.out _ _ ⟨hHeld.1.kp hk (by simp; omega), hHeld.2.1.kp hk (by simp; omega), hHeld.2.2.kp hk (by simp; omega)⟩ (fun hHeld => ?_)
      clear hK K hk hn hC3 x3
      try simp only [List.getElem_toArray]
      try simp only [List.getElem_cons_succ]
      try simp only [List.getElem_cons_zero]
      try simp only [Act.put]
      try simp only [List.setIfInBounds_toArray]
      try simp only [List.set_cons_succ]
      try simp only [List.set_cons_zero]
      refine wpAnyH_done (by kernel_rfl) ?_ _
      go_wp2_with fail
      go_meet
      exact ⟨xp, rfl, x4, hHeld, hC4⟩
  case rest =>
    obtain ⟨p, rfl, x0, ⟨b1, b2, b3⟩, hC⟩ := hcut
    clear a1 a2 a3 hC0 hW
    rename World => w1
    have hB1 := hB.trans (hC.mono hB.size)
    clear hC hB
    have p0 : ∀ d os, Calls Try.prog 10 #[] (grow (redrawn w1 d) os) fun e w'' => e = .returned (.bool true) ∧ ∃ p : Regrown, w'' = grow (redrawn w1 p.d) p.os := fun d os => Calls.regrown_of (fixed_ok _)
    have p1 : ∀ d os, Calls Try.prog 16 #[.agg (mbc a), .agg (mbc b)] (grow (redrawn w1 d) os) fun e w'' => e = .returned (.agg (mbc (sameM a b))) ∧ ∃ p : Regrown, w'' = grow (redrawn w1 p.d) p.os := fun d os => Calls.regrown_of (same_ok a b _)
    have p2 : ∀ d os, Calls Try.prog 16 #[.agg (mbc b), .agg (mbc a)] (grow (redrawn w1 d) os) fun e w'' => e = .returned (.agg (mbc (sameM b a))) ∧ ∃ p : Regrown, w'' = grow (redrawn w1 p.d) p.os := fun d os => Calls.regrown_of (same_ok b a _)
    have p3 : ∀ d os, Calls Try.prog 16 #[.agg (mbc a), .agg (mbc a)] (grow (redrawn w1 d) os) fun e w'' => e = .returned (.agg (mbc (sameM a a))) ∧ ∃ p : Regrown, w'' = grow (redrawn w1 p.d) p.os := fun d os => Calls.regrown_of (same_ok a a _)
    have p4 : ∀ d os, Calls Try.prog 16 #[.agg (mbc b), .agg (mbc c)] (grow (redrawn w1 d) os) fun e w'' => e = .returned (.agg (mbc (sameM b c))) ∧ ∃ p : Regrown, w'' = grow (redrawn w1 p.d) p.os := fun d os => Calls.regrown_of (same_ok b c _)
    have p5 : ∀ d os, Calls Try.prog 16 #[.agg (mbc a), .agg (mbc (sameM b c))] (grow (redrawn w1 d) os) fun e w'' => e = .returned (.agg (mbc (sameM a (sameM b c)))) ∧ ∃ p : Regrown, w'' = grow (redrawn w1 p.d) p.os := fun d os => Calls.regrown_of (same_ok a (sameM b c) _)
    have p6 : ∀ d os, Calls Try.prog 15 #[.agg (mbc (sameM a b))] (grow (redrawn w1 d) os) fun e w'' => e = .returned (.int .i64 ((lst (sameM a b)).length : Nat)) ∧ ∃ p : Regrown, w'' = grow (redrawn w1 p.d) p.os := fun d os => Calls.regrown_of (many_ok (sameM a b) _)
    have p7 : ∀ d os, Calls Try.prog 15 #[.agg (mbc a)] (grow (redrawn w1 d) os) fun e w'' => e = .returned (.int .i64 ((lst a).length : Nat)) ∧ ∃ p : Regrown, w'' = grow (redrawn w1 p.d) p.os := fun d os => Calls.regrown_of (many_ok a _)
    have q0 := b1.regrown
    have q1 := b2.regrown
    have q2 := b3.regrown
    have q3 := x0.regrown
    have k0 := eqlMb (sameM a b) (sameM b a) true (by rw [same_comm a b]; exact mbSame_self _)
    have k1 := eqlMb (sameM a a) a true (by rw [same_self a]; exact mbSame_self _)
    have k2 := eqlMb (sameM (sameM a b) c) (sameM a (sameM b c)) true (by rw [same_assoc a b c]; exact mbSame_self _)
    have k3 : ((lst (sameM a b)).length : Int) ≤ ((lst a).length : Int) := by have := same_many a b; omega
    clear b1 b2 b3 x0
    go_wp2_with fail
    refine wp_region_quiet_below (by kernel_rfl) (by kernel_rfl) ?_
    repeat (first
      | (go_big_quiet_want; refine quiet_load rfl rfl q0 Try.underlying26 rfl sizeMb ?_; simp only [Act.put, List.setIfInBounds_toArray, List.set_cons_zero, List.set_cons_succ]; go_big_quiet_on)
      | (go_big_quiet_want; refine quiet_load rfl rfl q1 Try.underlying26 rfl sizeMb ?_; simp only [Act.put, List.setIfInBounds_toArray, List.set_cons_zero, List.set_cons_succ]; go_big_quiet_on)
      | (go_big_quiet_want; refine quiet_load rfl rfl q2 Try.underlying26 rfl sizeMb ?_; simp only [Act.put, List.setIfInBounds_toArray, List.set_cons_zero, List.set_cons_succ]; go_big_quiet_on)
      | (go_big_quiet_want; refine quiet_load rfl rfl q3 Try.underlying26 rfl sizeMb ?_; simp only [Act.put, List.setIfInBounds_toArray, List.set_cons_zero, List.set_cons_succ]; go_big_quiet_on)
      | go_big_quiet_step (first | with_reducible exact p0 _ _ | with_reducible exact p1 _ _ | with_reducible exact p2 _ _ | with_reducible exact p3 _ _ | with_reducible exact p4 _ _ | with_reducible exact p5 _ _ | with_reducible exact p6 _ _ | with_reducible exact p7 _ _))
    refine wpQuiet_nil ?_
    intro _ hw'
    obtain ⟨⟨dq, osq⟩, hw''⟩ := hw'
    subst hw''
    go_wp2_with fail
    go_ret
    exact ⟨rfl, hB1.trans ((below_regrown w1 dq osq).mono hB1.size)⟩

set_option maxRecDepth 100000 in
theorem lifted (os : Os) (started : os.Started) (H : Type) (enc : TypeId × Value → H) :
    ReturnsInHanded {} Try.checked os 6 .any (Rows.identSameSpec.pre6 enc Try.prog Try.f6 Rows.identSameRow.domain false) (Rows.identSameSpec.post enc Try.prog Try.f6 false true false false) := by
  refine returnsInHanded_of_change_sized (C := Try.checked) own started (by kernel_rfl) Try.func6
    (ChangeSpec.witness6 (enc := enc) (C := Try.checked) false ⟨#[], #[.agg (mbc noMb), .agg (mbc noMb), .agg (mbc noMb)], []⟩ 8 (by kernel_rfl) (by kernel_rfl) (by kernel_rfl) (by kernel_rfl)) ?_
  intro W base args ds gs before hval0 hW hcnd hsz0 _
  have hval : ∀ (j : Nat) t v, Try.f6.params[j]? = some t → args[j]? = some v → Value.okWide Try.prog W .any base t v := hval0
  have hsz : (DataW.weightsEach Try.prog (Try.f6.params.toList ++ Rows.identSameSpec.plain.varTypes Try.prog) (ds ++ gs)).all (· ≤ reachBytes) = true := hsz0
  have hW' := hW
  obtain ⟨p, q, hA0, hV, rfl, hfz, hnd⟩ := hW
  have hA : DataW.TrodAll enc Try.prog W 0 (fun _ => true) true Try.f6.params.toList args.toList ds p := hA0
  rw [Try.params6] at hA hval hsz

  obtain ⟨v0, vs0, d0, ds0, p0, q0, hargs, rfl, rfl, h0, r0⟩ := trodAll_cons hA
  obtain ⟨v1, vs1, d1, ds1, p1, q1, rfl, rfl, rfl, h1, r1⟩ := trodAll_cons r0
  obtain ⟨v2, vs2, d2, ds2, p2, q2, rfl, rfl, rfl, h2, r2⟩ := trodAll_cons r1
  obtain ⟨rfl, rfl, rfl⟩ := trodAll_nil r2
  obtain rfl : args = #[v0, v1, v2] := by cases args; simp_all
  obtain ⟨rfl, rfl⟩ := trodVars_none hV
  obtain ⟨m0, rfl⟩ := open_mb (by obtain ⟨cs, h1, _⟩ := (by simpa only [Value.okWide, Try.underlying26] using hval 0 26 v0 rfl rfl : ∃ cs, v0 = .agg cs ∧ _); exact ⟨cs, h1⟩) h0
  obtain ⟨m1, rfl⟩ := open_mb (by obtain ⟨cs, h1, _⟩ := (by simpa only [Value.okWide, Try.underlying26] using hval 1 26 v1 rfl rfl : ∃ cs, v1 = .agg cs ∧ _); exact ⟨cs, h1⟩) h1
  obtain ⟨m2, rfl⟩ := open_mb (by obtain ⟨cs, h1, _⟩ := (by simpa only [Value.okWide, Try.underlying26] using hval 2 26 v2 rfl rfl : ∃ cs, v2 = .agg cs ∧ _); exact ⟨cs, h1⟩) h2
  have hA2 := hA0
  clear hA0 hval0 hsz0
  simp only [List.append_nil] at hW'
  refine (walk m0 m1 m2 W).mono fun e W' ⟨he, bel⟩ => ?_
  subst he
  exact ⟨_, rfl, _, _, _, [], _, [], hW', trodAll_mk1 (shut_bool Try.underlying4 _), (stays_all laidOut bel (by kernel_rfl) hA2), rfl, bel.frame _, fun h => by cases h⟩

theorem over : Rows.identSameRow.holds Try.pinned (OpenSpec.ofChange Rows.identSameSpec) :=
  OpenClaim.holds_of_wide 6 Try.f6 rfl rfl rfl rfl rfl rfl rfl ⟨rfl, rfl, rfl, rfl, rfl⟩ rfl rfl rfl rfl rfl (by kernel_rfl) Try.func6 (by kernel_rfl)
    (of_decide_eq_true (by kernel_rfl)) (by unfold Func.isWrapper; first | (rw [if_pos (by decide +kernel)]; kernel_rfl) | (rw [if_neg (by decide +kernel)]; exact ⟨rfl, rfl⟩))
    (fun os started H enc _ => lifted os started H enc)

end Go.Proofs.Ytbgfhmnlnjlnhaa.identSame
namespace Go.Proofs.Ytbgfhmnlnjlnhaa

theorem identSame_holds : Rows.IdentSameSaid := identSame.over
#print axioms identSame_holds

end Go.Proofs.Ytbgfhmnlnjlnhaa
