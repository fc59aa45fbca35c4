/-
  A fifth session is refused, till one is closed; then one more is opened, with a new Id: the law RosterFull returns true for every input.
  No condition beyond the form's own.
-/
import Derived.Test.YthhloomoiihfnaaRows
import Derived.Test.YthhloomoiihfnaaRoO
import Derived.Test.YthhloomoiihfnaaRoF
import Derived.WalkKit
import Derived.ProofKit
import Derived.OpenShut
import Derived.ShutString
import Derived.SizedLaws
import Derived.ChangeOld
import Derived.Below
namespace Go.Proofs.Ythhloomoiihfnaa.rosterFull
open Go.Sort Go.ChangeShapes Go.WideShapes Go.ChangeAt Go.RowKit
open Go.ChangeMaps (open_string shut_string)
set_option linter.unusedVariables false
set_option maxRecDepth 10000

theorem own : ownKnob Try.prog.godebug = none := by kernel_rfl
theorem length_bytes (s : ByteArray) : s.data.toList.length = s.size := by rw [Array.length_toList]; rfl

set_option maxHeartbeats 8000000 in
theorem walk (d0 : Int) (dw : (Lit.int .u64 d0).wf = true) (w : World) :
    Calls Try.prog 6 #[.int .u64 d0] w fun e w' => e = .returned (.bool true) ∧ Below w.heap.size w w' := by
  obtain ⟨d, rfl, db⟩ := u64_nat d0 dw
  have b0 := blk_new w #[.int .u64 0, .slice none 0 0] 25
  have hB : Below w.heap.size w (w.alloc (.cells #[.int .u64 0, .slice none 0 0] 25)) := below_box w _
  go_enter Try.func6, Try.ntmps6
  go_upto_region 2 with (go_big_may; first | refine build_zero builtRo rfl rfl ?_ | refine alloc_zero zeroRo rfl rfl ?_ | refine store_new rfl 25 _ _ rfl (cells := #[.int .u64 0, .slice none 0 0]) rfl rfl sizeRo rfl (ro_one _ _ _ _) ?_)
  try simp only [Act.put]
  generalize hW0 : w.alloc (Obj.cells #[.int .u64 0, .slice none 0 0] 25) = W0 at b0 hB ⊢
  clear hW0
  go_wp2_with fail
  go_loopw [4] (fun iv wr => ∃ (j : Nat) (a : Option Addr) (c : Nat), j ≤ 4 ∧ iv = .int .i64 j ∧ Blk w.heap.size #[.int .u64 (j : Int), .slice a j c] 25 wr ∧ Li Se.vals (w.heap.size + 1) a (flL j) wr ∧ Below w.heap.size w wr) (fun iv _ => 4 - (intOf iv).toNat)
  case atStart => exact ⟨0, none, 0, by omega, rfl, b0, .inl rfl, hB⟩
  case round =>
    clear b0 hB
    obtain ⟨j, a, c, hj, rfl, b0, hS, hB⟩ := hrel
    rename World => wr
    by_cases hj4 : j < 4
    · have j0 : (j : Int) < 4 := by omega
      have pO := open_ok j (flL j) a c (by rw [fl_len]; omega)
      unfold Opened at pO
      rw [(fl_open j hj4).1, (fl_open j hj4).2.1, (fl_open j hj4).2.2, fl_len, fl_len] at pO
      obtain ⟨k, hk⟩ : ∃ k, Hid (j + 1 = k) := ⟨_, rfl⟩
      rw [hk.out] at pO
      have u1 : IntKind.u64.wrap ((j : Int) + 1) = (k : Int) := by have := hk.out; rw [IntKind.wrap_u64]; omega
      have hw1 := b0.lt
      go_wp2_with (refine load_blk rfl 25 _ rfl b0 rfl Try.underlying25 rfl sizeRo ?_)
      refine (pO _ (hS.mono (Nat.zero_le _))).mono ?_
      rintro r w1 ⟨⟨a1, c1, rfl, h1⟩, hb⟩
      replace b0 := b0.below hb
      replace hS := hS.below hb
      replace hB := below_next hB hb
      replace h1 := h1.li.mono hw1
      clear hb pO
      have v1 := blk_new w1 #[.int .u64 (k : Int), .slice a1 k c1] 25
      have hb := below_box w1 (.cells #[.int .u64 (k : Int), .slice a1 k c1] 25)
      go_upto_region 6 with (go_big_may; first | refine alloc_zero zeroRo rfl rfl ?_ | refine store_new rfl 25 _ _ rfl (cells := #[.int .u64 (k : Int), .slice a1 k c1]) rfl rfl sizeRo rfl (ro_one _ _ _ _) ?_)
      try simp only [Act.put]
      generalize w1.alloc (Obj.cells #[.int .u64 (k : Int), .slice a1 k c1] 25) = W1 at v1 hb ⊢
      replace b0 := b0.below hb
      replace hS := hS.below hb
      replace h1 := h1.below hb
      replace hB := below_next hB hb
      generalize w1.heap.size = p1 at v1 hb ⊢
      clear hb
      go_wp2_with (first | refine load_blk rfl 25 _ rfl v1 rfl Try.underlying25 rfl sizeRo ?_ | (refine store_all rfl 25 _ _ rfl (cells := #[.int .u64 (k : Int), .slice a1 k c1]) b0 rfl rfl sizeRo rfl (ro_one _ _ _ _) ?_; intro w9 b9 k9; have hB9 := below_at hB k9 (Nat.le_refl _); have h9 := h1.kp k9 (fun q hq => by simp at hq; omega)))
      exact ⟨⟨k, a1, c1, by have := hk.out; omega, by rw [← hk.out]; go_num, b9, h9, hB9⟩, by have := hk.out; simp [intOf]; omega⟩
    · obtain rfl : j = 4 := by omega
      clear hj4
      replace hS := hS.mono (Nat.zero_le _)
      have q1 := open_ok 4 (flL 4) a c (by decide)
      unfold Opened at q1
      rw [fl_full.1, fl_full.2.1, fl_full.2.2, fl_len] at q1
      have q2 := close_ok d 4 (flL 4) a c (by decide)
      unfold Closed at q2
      rw [fl_len] at q2
      by_cases hd : 1 ≤ d ∧ d ≤ 4
      · obtain ⟨e1, e2, M, e3, e4, e5, e6, K, e7, e8, e9, e10, e11, e12, e13⟩ := fl_some d hd
        rw [e1, e2, e3, e4] at q2
        have q3 := fun a c w h => open_ok 4 M a c (by rw [e4]; decide) w h
        unfold Opened at q3
        rw [e5, e6, e7, e8, e4] at q3
        have q4 := fun a c w h => open_ok 5 K a c (by rw [e8]; decide) w h
        unfold Opened at q4
        rw [e9, e10, e11, e8] at q4
        have q5 := fun a c w h => has_ok d 5 K a c (by rw [e8]; decide) w h
        rw [e12, e8] at q5
        have q6 := fun a c w h => has_ok 5 5 K a c (by rw [e8]; decide) w h
        rw [e13, e8] at q6
        have d1 : (1 : Int) ≤ (d : Int) := by omega
        have d4 : (d : Int) ≤ 4 := by omega
        clear e1 e2 e3 e4 e5 e6 e7 e8 e9 e10 e11 e12 e13 hd
        go_wp2_with (refine load_blk rfl 25 _ rfl b0 rfl Try.underlying25 rfl sizeRo ?_)
        refine (q1 _ hS).mono ?_
        rintro r w1 ⟨⟨a1, c1, rfl, h1⟩, hb⟩
        replace b0 := b0.below hb
        replace hS := hS.below hb
        replace hB := below_next hB hb
        replace h1 := h1.li.mono (Nat.zero_le _)
        clear hb q1
        have v1 := blk_new w1 #[.int .u64 0, .slice a1 0 c1] 25
        have hb := below_box w1 (.cells #[.int .u64 0, .slice a1 0 c1] 25)
        go_upto_region 10 with (go_big_may; first | refine alloc_zero zeroRo rfl rfl ?_ | refine store_new rfl 25 _ _ rfl (cells := #[.int .u64 0, .slice a1 0 c1]) rfl rfl sizeRo rfl (ro_one _ _ _ _) ?_)
        try simp only [Act.put]
        generalize w1.alloc (Obj.cells #[.int .u64 0, .slice a1 0 c1] 25) = W1 at v1 hb ⊢
        replace b0 := b0.below hb
        replace hS := hS.below hb
        replace h1 := h1.below hb
        replace hB := below_next hB hb
        generalize w1.heap.size = p1 at v1 hb ⊢
        clear hb
        clear v1 h1
        go_wp2_with (refine load_blk rfl 25 _ rfl b0 rfl Try.underlying25 rfl sizeRo ?_)
        refine (q2 _ hS).mono ?_
        rintro r w2 ⟨⟨a2, c2, rfl, h2⟩, hb⟩
        replace hB := below_next hB hb
        replace h2 := h2.li.mono (Nat.zero_le _)
        clear hb q2 b0 hS
        have v2 := blk_new w2 #[.int .u64 4, .slice a2 3 c2] 25
        have hb := below_box w2 (.cells #[.int .u64 4, .slice a2 3 c2] 25)
        go_upto_region 11 with (go_big_may; first | refine alloc_zero zeroRo rfl rfl ?_ | refine store_new rfl 25 _ _ rfl (cells := #[.int .u64 4, .slice a2 3 c2]) rfl rfl sizeRo rfl (ro_one _ _ _ _) ?_)
        try simp only [Act.put]
        generalize w2.alloc (Obj.cells #[.int .u64 4, .slice a2 3 c2] 25) = W2 at v2 hb ⊢
        replace h2 := h2.below hb
        replace hB := below_next hB hb
        generalize w2.heap.size = p2 at v2 hb ⊢
        clear hb
        go_wp2_with fail
        refine (fixed_ok _).mono ?_
        rintro r w9 ⟨rfl, hb⟩
        replace v2 := v2.below hb
        replace h2 := h2.below hb
        replace hB := below_next hB hb
        clear hb
        go_upto_region 15 with fail
        try simp only [Act.put]
        go_wp2_with (refine load_blk rfl 25 _ rfl v2 rfl Try.underlying25 rfl sizeRo ?_)
        refine (q3 a2 c2 _ h2).mono ?_
        rintro r w4 ⟨⟨a4, c4, rfl, h4⟩, hb⟩
        replace hB := below_next hB hb
        replace h4 := h4.li.mono (Nat.zero_le _)
        clear hb q3 v2 h2
        have v4 := blk_new w4 #[.int .u64 5, .slice a4 4 c4] 25
        have hb := below_box w4 (.cells #[.int .u64 5, .slice a4 4 c4] 25)
        go_upto_region 16 with (go_big_may; first | refine alloc_zero zeroRo rfl rfl ?_ | refine store_new rfl 25 _ _ rfl (cells := #[.int .u64 5, .slice a4 4 c4]) rfl rfl sizeRo rfl (ro_one _ _ _ _) ?_)
        try simp only [Act.put]
        generalize w4.alloc (Obj.cells #[.int .u64 5, .slice a4 4 c4] 25) = W4 at v4 hb ⊢
        replace h4 := h4.below hb
        replace hB := below_next hB hb
        generalize w4.heap.size = p4 at v4 hb ⊢
        clear hb
        go_wp2_with (refine load_blk rfl 25 _ rfl v4 rfl Try.underlying25 rfl sizeRo ?_)
        refine (q4 a4 c4 _ h4).mono ?_
        rintro r w5 ⟨⟨a5, c5, rfl, h5⟩, hb⟩
        replace v4 := v4.below hb
        replace h4 := h4.below hb
        replace hB := below_next hB hb
        replace h5 := h5.li.mono (Nat.zero_le _)
        clear hb q4
        have v5 := blk_new w5 #[.int .u64 0, .slice a5 0 c5] 25
        have hb := below_box w5 (.cells #[.int .u64 0, .slice a5 0 c5] 25)
        go_upto_region 17 with (go_big_may; first | refine alloc_zero zeroRo rfl rfl ?_ | refine store_new rfl 25 _ _ rfl (cells := #[.int .u64 0, .slice a5 0 c5]) rfl rfl sizeRo rfl (ro_one _ _ _ _) ?_)
        try simp only [Act.put]
        generalize w5.alloc (Obj.cells #[.int .u64 0, .slice a5 0 c5] 25) = W5 at v5 hb ⊢
        replace v4 := v4.below hb
        replace h4 := h4.below hb
        replace h5 := h5.below hb
        replace hB := below_next hB hb
        generalize w5.heap.size = p5 at v5 hb ⊢
        clear hb
        clear v5 h5
        go_wp2_with (first | refine load_want rfl 25 _ rfl v4 rfl Try.underlying25 rfl sizeRo ?_ | refine load_blk rfl 25 _ rfl v4 rfl Try.underlying25 rfl sizeRo ?_)
        refine (q5 a4 c4 _ h4).mono ?_
        rintro r W ⟨rfl, hb⟩
        replace v4 := v4.below hb
        replace h4 := h4.below hb
        replace hB := below_next hB hb
        clear hb q5
        go_wp2_with (first | refine load_want rfl 25 _ rfl v4 rfl Try.underlying25 rfl sizeRo ?_ | refine load_blk rfl 25 _ rfl v4 rfl Try.underlying25 rfl sizeRo ?_)
        refine (q6 a4 c4 _ h4).mono ?_
        rintro r W ⟨rfl, hb⟩
        replace hB := below_next hB hb
        clear hb q6 v4 h4
        go_wp2_with fail
        go_ret
        exact ⟨rfl, hB⟩
      · obtain ⟨e1, e2, e3⟩ := fl_none d hd
        rw [e1, e2, e3] at q2
        have dd : ¬ (1 : Int) ≤ (d : Int) ∨ (1 : Int) ≤ (d : Int) ∧ ¬ (d : Int) ≤ 4 := by omega
        clear e1 e2 e3 hd
        go_wp2_with (refine load_blk rfl 25 _ rfl b0 rfl Try.underlying25 rfl sizeRo ?_)
        refine (q1 _ hS).mono ?_
        rintro r w1 ⟨⟨a1, c1, rfl, h1⟩, hb⟩
        replace b0 := b0.below hb
        replace hS := hS.below hb
        replace hB := below_next hB hb
        replace h1 := h1.li.mono (Nat.zero_le _)
        clear hb q1
        have v1 := blk_new w1 #[.int .u64 0, .slice a1 0 c1] 25
        have hb := below_box w1 (.cells #[.int .u64 0, .slice a1 0 c1] 25)
        go_upto_region 10 with (go_big_may; first | refine alloc_zero zeroRo rfl rfl ?_ | refine store_new rfl 25 _ _ rfl (cells := #[.int .u64 0, .slice a1 0 c1]) rfl rfl sizeRo rfl (ro_one _ _ _ _) ?_)
        try simp only [Act.put]
        generalize w1.alloc (Obj.cells #[.int .u64 0, .slice a1 0 c1] 25) = W1 at v1 hb ⊢
        replace b0 := b0.below hb
        replace hS := hS.below hb
        replace h1 := h1.below hb
        replace hB := below_next hB hb
        generalize w1.heap.size = p1 at v1 hb ⊢
        clear hb
        clear v1 h1
        go_wp2_with (refine load_blk rfl 25 _ rfl b0 rfl Try.underlying25 rfl sizeRo ?_)
        refine (q2 _ hS).mono ?_
        rintro r w2 ⟨⟨a2, c2, rfl, h2⟩, hb⟩
        replace hB := below_next hB hb
        replace h2 := h2.li.mono (Nat.zero_le _)
        clear hb q2 b0 hS
        have v2 := blk_new w2 #[.int .u64 0, .slice a2 0 c2] 25
        have hb := below_box w2 (.cells #[.int .u64 0, .slice a2 0 c2] 25)
        go_upto_region 11 with (go_big_may; first | refine alloc_zero zeroRo rfl rfl ?_ | refine store_new rfl 25 _ _ rfl (cells := #[.int .u64 0, .slice a2 0 c2]) rfl rfl sizeRo rfl (ro_one _ _ _ _) ?_)
        try simp only [Act.put]
        generalize w2.alloc (Obj.cells #[.int .u64 0, .slice a2 0 c2] 25) = W2 at v2 hb ⊢
        replace h2 := h2.below hb
        replace hB := below_next hB hb
        generalize w2.heap.size = p2 at v2 hb ⊢
        clear hb
        clear v2 h2
        rcases dd with d1 | ⟨d1, d4⟩
        · go_wp2_with fail
          refine (fixed_ok _).mono ?_
          rintro r w9 ⟨rfl, hb⟩
          replace hB := below_next hB hb
          clear hb
          go_wp2_with fail
          go_ret
          exact ⟨rfl, hB⟩
        · go_wp2_with fail
          refine (fixed_ok _).mono ?_
          rintro r w9 ⟨rfl, hb⟩
          replace hB := below_next hB hb
          clear hb
          go_wp2_with fail
          go_ret
          exact ⟨rfl, hB⟩

set_option maxRecDepth 100000 in
theorem lifted (os : Go.Os) (started : os.Started) (H : Type) (enc : TypeId × Value → H) :
    ReturnsInHanded {} Try.checked os 6 .any (Rows.rosterFullSpec.pre6 enc Try.prog Try.f6 Rows.rosterFullRow.domain false) (Rows.rosterFullSpec.post enc Try.prog Try.f6 false true false false) := by
  refine returnsInHanded_of_change_sized (C := Try.checked) own started (by kernel_rfl) Try.func6
    (ChangeSpec.witness6 (enc := enc) (C := Try.checked) false ⟨#[], #[.int .u64 0], []⟩ 8 (by kernel_rfl) (by kernel_rfl) (by kernel_rfl) (by kernel_rfl)) ?_
  intro W base args ds gs before hval0 hW hcnd hsz0 _
  have hval : ∀ (j : Nat) t v, Try.f6.params[j]? = some t → args[j]? = some v → Value.okWide Try.prog W .any base t v := hval0
  have hsz : (DataW.weightsEach Try.prog (Try.f6.params.toList ++ Rows.rosterFullSpec.plain.varTypes Try.prog) (ds ++ gs)).all (· ≤ reachBytes) = true := hsz0
  have hW' := hW
  obtain ⟨p, q, hA0, hV, rfl, hfz, hnd⟩ := hW
  have hA : DataW.TrodAll enc Try.prog W 0 (fun _ => true) true Try.f6.params.toList args.toList ds p := hA0
  rw [Try.params6] at hA hval hsz

  obtain ⟨v0, vs0, d0, ds0, p0, q0, hargs, rfl, rfl, h0, r0⟩ := trodAll_cons hA
  obtain ⟨rfl, rfl, rfl⟩ := trodAll_nil r0
  obtain rfl : args = #[v0] := by cases args; simp_all
  obtain ⟨rfl, rfl⟩ := trodVars_none hV
  obtain ⟨a0, rfl, rfl, rfl, w0⟩ := open_int Try.underlying22 (hval 0 22 v0 rfl rfl) h0
  have hA2 := hA0
  clear hA0 hval0 hsz0
  simp only [List.append_nil] at hW'
  refine (walk a0 w0 W).mono fun e W' ⟨he, bel⟩ => ?_
  subst he
  exact ⟨_, rfl, _, _, _, [], _, [], hW', trodAll_mk1 (shut_bool Try.underlying4 _), (stays_all laidOut bel (by kernel_rfl) hA2), rfl, bel.frame _, fun h => by cases h⟩

theorem over : Rows.rosterFullRow.holds Try.pinned (OpenSpec.ofChange Rows.rosterFullSpec) :=
  OpenClaim.holds_of_wide 6 Try.f6 rfl rfl rfl rfl rfl rfl rfl ⟨rfl, rfl, rfl, rfl, rfl⟩ rfl rfl rfl rfl rfl (by kernel_rfl) Try.func6 (by kernel_rfl)
    (of_decide_eq_true (by kernel_rfl)) (by unfold Func.isWrapper; first | (rw [if_pos (by decide +kernel)]; kernel_rfl) | (rw [if_neg (by decide +kernel)]; exact ⟨rfl, rfl⟩))
    (fun os started H enc _ => lifted os started H enc)

end Go.Proofs.Ythhloomoiihfnaa.rosterFull
namespace Go.Proofs.Ythhloomoiihfnaa

theorem rosterFull_holds : Rows.RosterFullSaid := rosterFull.over
#print axioms rosterFull_holds

end Go.Proofs.Ythhloomoiihfnaa
