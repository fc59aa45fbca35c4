/-
  Entries of unlike members may come in either order: the table is the same; what is done to one group changes no other one's view: the law GroupTurned returns true for every input.
  No condition beyond the form's own.
-/
import Derived.Test.YthkomehnhadmlaaRows
import Derived.Test.YthkomehnhadmlaaGrF
import Derived.Test.YthkomehnhadmlaaGrT
import Derived.WalkKit
import Derived.ProofKit
import Derived.OpenShut
import Derived.ShutString
import Derived.SizedLaws
import Derived.ChangeOld
import Derived.Below
namespace Go.Proofs.Ythkomehnhadmlaa.groupTurned
open Go.Sort Go.ChangeShapes Go.WideShapes Go.ChangeAt Go.RowKit
open Go.ChangeMaps (open_string shut_string)
set_option linter.unusedVariables false
set_option maxRecDepth 10000

theorem own : ownKnob Try.prog.godebug = none := by kernel_rfl
theorem length_bytes (s : ByteArray) : s.data.toList.length = s.size := by rw [Array.length_toList]; rfl

theorem app_len (k : Int) (x : Mr) (L : List Mr) : (appM k x L).length ≤ L.length + 1 := by
  unfold appM
  split
  · split
    · rw [ins_len]; exact Nat.le_refl _
    · exact Nat.le_trans (List.length_filter_le _ _) (Nat.le_succ _)
  · exact Nat.le_succ _

set_option maxHeartbeats 8000000 in
theorem walk (la : Option Addr) (L : List Mr) (lc : Nat) (lz : L.length * 24 ≤ 140737488351232) (lk : L.length ≤ lc) (lm : lc ≤ maxLen) (ls : ∀ x ∈ L, x.fit) (dx : Int) (ex : En) (dy : Int) (ey : En) (w : World) (hL : Li Mr.vals 0 la L w) :
    Calls Try.prog 5 #[.slice la L.length lc, .agg (dic dx ex), .agg (dic dy ey)] w fun e w' => e = .returned (.bool true) ∧ Below w.heap.size w w' := by
  obtain ⟨x, hx⟩ : ∃ x : Mr, Hid (⟨ex.g, dx, ex.se⟩ = x) := ⟨_, rfl⟩
  obtain ⟨y, hy⟩ : ∃ y : Mr, Hid (⟨ey.g, dy, ey.se⟩ = y) := ⟨_, rfl⟩
  have hxg : x.g = ex.g := by rw [← hx.out]
  have lm2 : lc ≤ 9223372036854775807 := by simp only [maxLen] at lm; omega
  have lA := app_len ex.k x L
  have lC := app_len ey.k y L
  have lD := app_len ex.k x (appM ey.k y L)
  have pM := gmay_ok L la lc (by omega)
  have pA := gapply_ok dx ex L la lc (by omega) lk lm2
  have pC := gapply_ok dy ey L la lc (by omega) lk lm2
  have pB := fun a c h1 h2 => gapply_ok dy ey (appM ex.k x L) a c (by omega) h1 h2
  have pD := fun a c h1 h2 => gapply_ok dx ex (appM ey.k y L) a c (by omega) h1 h2
  have pV1 := fun g a c => gview_ok g (appM ex.k x L) a c (by omega)
  have pV2 := fun g => gview_ok g L la lc (by omega)
  have pS1 := fun g a b c d => rsameM_ok (viewM g L) a b c d (by have : (viewM g L).length ≤ L.length := List.length_filter_le _ _; omega)
  have pS2 := fun a b c d => rsameM_ok (appM ex.k x (appM ey.k y L)) a b c d (by omega)
  have hV : mayMB L = true → ∀ g, g ≠ ex.g → viewM g (appM ex.k x L) = viewM g L := fun h g hg => view_app ((mayMB_iff L).1 h) (by rw [hxg]; exact hg)
  have hT : mayMB L = true → x ≠ y → appM ey.k y (appM ex.k x L) = appM ex.k x (appM ey.k y L) := fun h hne => app_turned ((mayMB_iff L).1 h) hne
  unfold AppM at pA pB pC pD
  simp only [hx.out, hy.out] at pA pB pC pD
  obtain ⟨nl, hnl⟩ : ∃ n, Hid (L.length = n) := ⟨_, rfl⟩
  rw [hnl.out] at pM pA pC pV2 ⊢
  clear lA lC lD hxg
  obtain ⟨b0, b1, hB⟩ := two_blk (T0 := 45) (T1 := 45) (C0 := dic dx ex) (C1 := dic dy ey) (w := w) rfl
  go_enter Try.func5, Try.ntmps5
  go_upto_region 1 with fail
  try simp only [Act.put]
  generalize hW : (w.alloc (Obj.cells (dic dx ex) 45)).alloc (Obj.cells (dic dy ey) 45) = W at b0 b1 hB ⊢
  clear hW
  go_wp2_with fail
  refine (fixed_ok _).mono ?_
  rintro r w1 ⟨rfl, hb⟩
  replace b0 := b0.below hb
  replace b1 := b1.below hb
  replace hB := below_next hB hb
  clear hb 
  go_wp2_with fail
  refine (pM _ (hL.below hB)).mono ?_
  rintro r w2 ⟨rfl, hb⟩
  replace b0 := b0.below hb
  replace b1 := b1.below hb
  replace hB := below_next hB hb
  clear hb pM
  cases hm : mayMB L with
  | false =>
    clear pA pB pC pD pV1 pV2 pS1 pS2 hV hT b0 b1 hm
    go_wp2_with fail
    refine (fixed_ok _).mono ?_
    rintro r w3 ⟨rfl, hb⟩
    replace hB := below_next hB hb
    clear hb
    go_wp2_with fail
    go_ret
    exact ⟨rfl, hB⟩
  | true =>
    replace hV := hV hm
    replace hT := hT hm
    clear hm
    have q0 : w2.cell? ⟨w.heap.size, 0, none⟩ = some (.int .i64 dx) := b0.cell 0 _ rfl
    have q3 : w2.cell? ⟨w.heap.size, 3, none⟩ = some (.int .i64 ex.g) := b0.cell 3 _ rfl
    have q4 : w2.cell? ⟨w.heap.size, 4, none⟩ = some (.int .u64 (ex.se : Int)) := b0.cell 4 _ rfl
    have b7 := blk_new w2 x.arr 35
    have hb := below_box w2 (.cells x.arr 35)
    go_upto_region 4 with (go_big_may; first | (refine build_as rfl 35 #[(0, .tmp 28), (1, .tmp 30), (2, .tmp 33)] rfl (C := x.arr) ?_ ?_; (rw [← hx.out]; kernel_rfl)) | refine alloc_zero zeroMr rfl rfl ?_ | refine store_new rfl 35 _ _ rfl (cells := x.arr) rfl rfl sizeMr rfl x.arr_one ?_)
    try simp only [Act.put, List.setIfInBounds_toArray, List.set_cons_zero, List.set_cons_succ]
    generalize w2.alloc (Obj.cells x.arr 35) = w3 at b7 hb ⊢
    replace b0 := b0.below hb
    replace b1 := b1.below hb
    replace hB := below_next hB hb
    generalize hzb7 : w2.heap.size = zb7 at b7 ⊢
    clear hb q0 q3 q4 hzb7
    have q0 : w3.cell? ⟨(w.heap.size + 1), 0, none⟩ = some (.int .i64 dy) := b1.cell 0 _ rfl
    have q3 : w3.cell? ⟨(w.heap.size + 1), 3, none⟩ = some (.int .i64 ey.g) := b1.cell 3 _ rfl
    have q4 : w3.cell? ⟨(w.heap.size + 1), 4, none⟩ = some (.int .u64 (ey.se : Int)) := b1.cell 4 _ rfl
    have b8 := blk_new w3 y.arr 35
    have hb := below_box w3 (.cells y.arr 35)
    go_upto_region 5 with (go_big_may; first | (refine build_as rfl 35 #[(0, .tmp 37), (1, .tmp 39), (2, .tmp 42)] rfl (C := y.arr) ?_ ?_; (rw [← hy.out]; kernel_rfl)) | refine alloc_zero zeroMr rfl rfl ?_ | refine store_new rfl 35 _ _ rfl (cells := y.arr) rfl rfl sizeMr rfl y.arr_one ?_)
    try simp only [Act.put, List.setIfInBounds_toArray, List.set_cons_zero, List.set_cons_succ]
    generalize w3.alloc (Obj.cells y.arr 35) = w4 at b8 hb ⊢
    replace b0 := b0.below hb
    replace b1 := b1.below hb
    replace b7 := b7.below hb
    replace hB := below_next hB hb
    generalize hzb8 : w3.heap.size = zb8 at b8 ⊢
    clear hb q0 q3 q4 hzb8
    clear hx hy
    have q0 : w4.cell? ⟨w.heap.size, 0, none⟩ = some (.int .i64 dx) := b0.cell 0 _ rfl
    go_wp2_with (refine load_part rfl 25 _ rfl (o := 1) b0 rfl ex.vals (dic_e _ _) Try.underlying25 rfl (En.size ex) ?_)
    refine (pA _ (hL.below hB)).mono ?_
    rintro r w5 ⟨⟨aA, cA, rfl, hA⟩, hb⟩
    replace b0 := b0.below hb
    replace b1 := b1.below hb
    replace b7 := b7.below hb
    replace b8 := b8.below hb
    replace hB := below_next hB hb
    have kA := hA.cap2
    replace hA := hA.li.mono (Nat.zero_le _)
    clear hb q0 pA
    go_wp2_with fail
    go_loopw [11] (fun iv wr => ∃ g : Int, -1 ≤ g ∧ g ≤ 9 ∧ iv = .int .i64 g ∧ Blk w.heap.size (dic dx ex) 45 wr ∧ Blk (w.heap.size + 1) (dic dy ey) 45 wr ∧ Blk zb7 x.arr 35 wr ∧ Blk zb8 y.arr 35 wr ∧ Li Mr.vals 0 aA (appM ex.k x L) wr ∧ Below w.heap.size w wr) (fun iv _ => (9 - intOf iv).toNat)
    case atStart => exact ⟨-1, by omega, by omega, rfl, b0, b1, b7, b8, hA, hB⟩
    case round =>
      clear b0 b1 b7 b8 hA hB
      obtain ⟨g, hg, hg9, rfl, b0, b1, b7, b8, hA, hB⟩ := hrel
      rename World => wr
      have q3 : wr.cell? ⟨w.heap.size, 3, none⟩ = some (.int .i64 ex.g) := b0.cell 3 _ rfl
      by_cases h9 : g < 9
      · by_cases hgx : g = ex.g
        · have d0 : (g != ex.g) = false := by simp [hgx]
          clear hgx pV1 pV2 hT pC pD pB pS2 hV pS1
          go_wp2_with fail
          exact ⟨⟨g + 1, by omega, by omega, by go_num, b0, b1, b7, b8, hA, hB⟩, by simp [intOf]; omega⟩
        · have d0 : (g != ex.g) = true := by simpa using hgx
          have e9 := hV g hgx
          replace pV1 := fun a c => pV1 g a c
          replace pV2 := pV2 g
          replace pS1 := fun a b c d => pS1 g a b c d
          unfold MadeMr at pV1 pV2
          rw [e9] at pV1
          generalize viewM g L = Q at pV1 pV2 pS1
          generalize Q.length = nq at pV1 pV2 pS1
          generalize appM ex.k x L = A at hA pV1 kA ⊢
          generalize A.length = nA at pV1 kA ⊢
          clear hgx e9 hT pC pD pB pS2 hV
          go_wp2_with fail
          refine (pV1 _ _ _ hA).mono ?_
          rintro r w21 ⟨⟨aP, cP, rfl, hP⟩, hb⟩
          replace b0 := b0.below hb
          replace b1 := b1.below hb
          replace b7 := b7.below hb
          replace b8 := b8.below hb
          replace hA := hA.below hb
          replace hB := below_next hB hb
          replace hP := hP.li.mono (Nat.zero_le _)
          clear hb pV1 q3
          go_wp2_with fail
          refine (pV2 _ (hL.below hB)).mono ?_
          rintro r w22 ⟨⟨aQ, cQ, rfl, hQ⟩, hb⟩
          replace b0 := b0.below hb
          replace b1 := b1.below hb
          replace b7 := b7.below hb
          replace b8 := b8.below hb
          replace hA := hA.below hb
          replace hP := hP.below hb
          replace hB := below_next hB hb
          replace hQ := hQ.li.mono (Nat.zero_le _)
          clear hb pV2
          go_wp2_with fail
          refine (pS1 _ _ _ _ _ hP hQ).mono ?_
          rintro r w23 ⟨rfl, hb⟩
          replace b0 := b0.below hb
          replace b1 := b1.below hb
          replace b7 := b7.below hb
          replace b8 := b8.below hb
          replace hA := hA.below hb
          replace hB := below_next hB hb
          clear hb pS1 hP hQ
          go_wp2_with fail
          exact ⟨⟨g + 1, by omega, by omega, by go_num, b0, b1, b7, b8, hA, hB⟩, by simp [intOf]; omega⟩
      · clear q3 pV1 pV2 hV pS1
        replace pB := pB aA cA kA.1 kA.2
        have q0 : wr.cell? ⟨(w.heap.size + 1), 0, none⟩ = some (.int .i64 dy) := b1.cell 0 _ rfl
        go_wp2_with (refine load_part rfl 25 _ rfl (o := 1) b1 rfl ey.vals (dic_e _ _) Try.underlying25 rfl (En.size ey) ?_)
        refine (pB _ hA).mono ?_
        rintro r w31 ⟨⟨aB, cB, rfl, hBB⟩, hb⟩
        replace b0 := b0.below hb
        replace b1 := b1.below hb
        replace b7 := b7.below hb
        replace b8 := b8.below hb
        replace hB := below_next hB hb
        have kB := hBB.cap2
        replace hBB := hBB.li.mono (Nat.zero_le _)
        clear hb q0 pB hA
        have q0 : w31.cell? ⟨(w.heap.size + 1), 0, none⟩ = some (.int .i64 dy) := b1.cell 0 _ rfl
        go_wp2_with (refine load_part rfl 25 _ rfl (o := 1) b1 rfl ey.vals (dic_e _ _) Try.underlying25 rfl (En.size ey) ?_)
        refine (pC _ (hL.below hB)).mono ?_
        rintro r w32 ⟨⟨aC, cC, rfl, hC⟩, hb⟩
        replace b0 := b0.below hb
        replace b1 := b1.below hb
        replace b7 := b7.below hb
        replace b8 := b8.below hb
        replace hBB := hBB.below hb
        replace hB := below_next hB hb
        have kC := hC.cap2
        replace hC := hC.li.mono (Nat.zero_le _)
        clear hb q0 pC
        replace pD := pD aC cC kC.1 kC.2
        have q0 : w32.cell? ⟨w.heap.size, 0, none⟩ = some (.int .i64 dx) := b0.cell 0 _ rfl
        go_wp2_with (refine load_part rfl 25 _ rfl (o := 1) b0 rfl ex.vals (dic_e _ _) Try.underlying25 rfl (En.size ex) ?_)
        refine (pD _ hC).mono ?_
        rintro r w33 ⟨⟨aD, cD, rfl, hD⟩, hb⟩
        replace b7 := b7.below hb
        replace b8 := b8.below hb
        replace hBB := hBB.below hb
        replace hB := below_next hB hb
        have kD := hD.cap2
        replace hD := hD.li.mono (Nat.zero_le _)
        clear hb q0 pD hC b0 b1
        by_cases hxy : x = y
        · have hE : ∀ w, (binOp .eql 35 (.agg x.arr) (.agg y.arr)).run Try.prog w = .ok (.bool true) w := eqlMr x y true ((Mr.same_iff x y).2 hxy)
          clear hxy hT pS2 hBB hD
          go_wp2_with (first | refine load_blk rfl 35 _ rfl b7 rfl Try.underlying35 rfl sizeMr ?_ | refine load_blk rfl 35 _ rfl b8 rfl Try.underlying35 rfl sizeMr ?_)
          go_ret
          exact ⟨rfl, hB⟩
        · have hE : ∀ w, (binOp .eql 35 (.agg x.arr) (.agg y.arr)).run Try.prog w = .ok (.bool false) w := eqlMr x y false (Mr.same_no hxy)
          replace hT := hT hxy
          rw [hT] at hBB ⊢
          generalize appM ex.k x (appM ey.k y L) = D at hBB hD pS2 ⊢
          generalize D.length = nD at pS2 ⊢
          clear hxy hT
          go_wp2_with (first | refine load_blk rfl 35 _ rfl b7 rfl Try.underlying35 rfl sizeMr ?_ | refine load_blk rfl 35 _ rfl b8 rfl Try.underlying35 rfl sizeMr ?_)
          refine (pS2 _ _ _ _ _ hBB hD).mono ?_
          rintro r w34 ⟨rfl, hb⟩
          replace hB := below_next hB hb
          clear hb pS2 hBB hD b7 b8
          go_wp2_with fail
          go_ret
          exact ⟨rfl, hB⟩

set_option maxRecDepth 100000 in
theorem lifted (os : Go.Os) (started : os.Started) (H : Type) (enc : TypeId × Value → H) :
    ReturnsInHanded {} Try.checked os 5 .any (Rows.groupTurnedSpec.pre6 enc Try.prog Try.f5 Rows.groupTurnedRow.domain false) (Rows.groupTurnedSpec.post enc Try.prog Try.f5 false true false false) := by
  refine returnsInHanded_of_change_sized (C := Try.checked) own started (by kernel_rfl) Try.func5
    (ChangeSpec.witness6 (enc := enc) (C := Try.checked) false ⟨#[], #[.slice none 0 0, .agg (dic 0 En.zero), .agg (dic 0 En.zero)], []⟩ 8 (by kernel_rfl) (by kernel_rfl) (by kernel_rfl) (by kernel_rfl)) ?_
  intro W base args ds gs before hval0 hW hcnd hsz0 _
  have hval : ∀ (j : Nat) t v, Try.f5.params[j]? = some t → args[j]? = some v → Value.okWide Try.prog W .any base t v := hval0
  have hsz : (DataW.weightsEach Try.prog (Try.f5.params.toList ++ Rows.groupTurnedSpec.plain.varTypes Try.prog) (ds ++ gs)).all (· ≤ reachBytes) = true := hsz0
  have hW' := hW
  obtain ⟨p, q, hA0, hV, rfl, hfz, hnd⟩ := hW
  have hA : DataW.TrodAll enc Try.prog W 0 (fun _ => true) true Try.f5.params.toList args.toList ds p := hA0
  rw [Try.params5] at hA hval hsz

  obtain ⟨v0, vs0, d0, ds0, p0, q0, hargs, rfl, rfl, h0, r0⟩ := trodAll_cons hA
  obtain ⟨v1, vs1, d1, ds1, p1, q1, rfl, rfl, rfl, h1, r1⟩ := trodAll_cons r0
  obtain ⟨v2, vs2, d2, ds2, p2, q2, rfl, rfl, rfl, h2, r2⟩ := trodAll_cons r1
  obtain ⟨rfl, rfl, rfl⟩ := trodAll_nil r2
  obtain rfl : args = #[v0, v1, v2] := by cases args; simp_all
  obtain ⟨rfl, rfl⟩ := trodVars_none hV
  obtain ⟨la0, L0, lc0, rfl, lz0, hc0, hm0, ls0, hS0⟩ := open_Mrs (okWide_slice Try.underlying22 (hval 0 22 v0 rfl rfl)) (fun n hn => of_decide_eq_true (List.all_eq_true.1 hsz _ (DataW.weights_mem_each (j := 0) rfl rfl n hn))) h0
  obtain ⟨d1_, x1, rfl⟩ := open_di (by obtain ⟨cs, h1, _⟩ := okWide_struct Try.underlying45 (hval 1 45 v1 rfl rfl); exact ⟨cs, h1⟩) h1
  obtain ⟨d2_, x2, rfl⟩ := open_di (by obtain ⟨cs, h1, _⟩ := okWide_struct Try.underlying45 (hval 2 45 v2 rfl rfl); exact ⟨cs, h1⟩) h2
  have hA2 := hA0
  clear hA0 hval0 hsz0
  simp only [List.append_nil] at hW'
  refine (walk la0 L0 lc0 lz0 hc0 hm0 ls0 d1_ x1 d2_ x2 W hS0).mono fun e W' ⟨he, bel⟩ => ?_
  subst he
  exact ⟨_, rfl, _, _, _, [], _, [], hW', trodAll_mk1 (shut_bool Try.underlying4 _), (stays_all laidOut bel (by kernel_rfl) hA2), rfl, bel.frame _, fun h => by cases h⟩

theorem over : Rows.groupTurnedRow.holds Try.pinned (OpenSpec.ofChange Rows.groupTurnedSpec) :=
  OpenClaim.holds_of_wide 5 Try.f5 rfl rfl rfl rfl rfl rfl rfl ⟨rfl, rfl, rfl, rfl, rfl⟩ rfl rfl rfl rfl rfl (by kernel_rfl) Try.func5 (by kernel_rfl)
    (of_decide_eq_true (by kernel_rfl)) (by unfold Func.isWrapper; first | (rw [if_pos (by decide +kernel)]; kernel_rfl) | (rw [if_neg (by decide +kernel)]; exact ⟨rfl, rfl⟩))
    (fun os started H enc _ => lifted os started H enc)

end Go.Proofs.Ythkomehnhadmlaa.groupTurned
namespace Go.Proofs.Ythkomehnhadmlaa

theorem groupTurned_holds : Rows.GroupTurnedSaid := groupTurned.over
#print axioms groupTurned_holds

end Go.Proofs.Ythkomehnhadmlaa
