/-
  What was promised is not taken again, nor anything below it; what one proposes is above what one promised, if one has seen its epoch, and then it stands: the law GatherOnce returns true for every input.
  No condition beyond the form's own.
-/
import Derived.Test.YtbmhfnallpcmpaaRows
import Derived.Test.YtbmhfnallpcmpaaGaX
import Derived.Test.YtbmhfnallpcmpaaGaB
import Derived.Test.YtbmhfnallpcmpaaGaO
import Derived.WalkKit
import Derived.ProofKit
import Derived.OpenShut
import Derived.ShutString
import Derived.SizedLaws
import Derived.ChangeOld
import Derived.Below
namespace Go.Proofs.Ytbmhfnallpcmpaa.gatherOnce
open Go.Sort Go.ChangeShapes Go.WideShapes Go.ChangeAt Go.RowKit
open Go.ChangeMaps (open_string shut_string)
set_option linter.unusedVariables false
set_option maxRecDepth 10000

theorem own : ownKnob Try.prog.godebug = none := by kernel_rfl
theorem length_bytes (s : ByteArray) : s.data.toList.length = s.size := by rw [Array.length_toList]; rfl

theorem skip_not {P : Program} {ops : Array Oper} {rest : List Oper} {o : Oper} {a : Act} {w : World} {Q : Exit → Act → World → Prop} (hw : Region.wanted o (yielded ops a.tmps) = false) (h : wpList P ops Q rest (a.put o.dst undef) w) : wpList P ops Q (o :: rest) a w :=
  wpList_step fun _ hK => by rw [if_neg (by rw [hw]; simp)]; exact hK _ _ h

set_option maxHeartbeats 16000000 in
theorem walk (c : Co) (kf : c.fit) (p : Pk) (m : Nat → Nat) (w : World) : Calls Try.prog 7 #[.agg (coc c), .agg (pkc p), .agg (mbc m)] w fun e w' => e = .returned (.bool true) ∧ Below w.heap.size w w' := by
  obtain ⟨a0, a1, a2, hB⟩ := three_blk (T0 := 35) (T1 := 43) (T2 := 28) (C0 := coc c) (C1 := pkc p) (C2 := mbc m) (w := w) rfl
  have ke := kf.epoch
  clear kf
  go_enter Try.func7, Try.ntmps7
  go_upto_region 1 with fail
  generalize ((w.alloc (Obj.cells (coc c) 35)).alloc (Obj.cells (pkc p) 43)).alloc (Obj.cells (mbc m) 28) = W at a0 a1 a2 hB ⊢
  go_wp2_with fail
  refine (fixed_ok _).mono ?_
  rintro r w1 ⟨rfl, hb⟩
  replace a0 := a0.below hb
  replace a1 := a1.below hb
  replace a2 := a2.below hb
  replace hB := hB.trans (hb.mono hB.size)
  clear hb 
  have c0 := a0.cell 0 (.int .i64 c.self) rfl
  obtain ⟨sI, hcs⟩ : ∃ s, c.self = s := ⟨_, rfl⟩
  rw [hcs] at c0
  by_cases h0 : sI < 0
  · clear a0 a1 a2 hcs ke
    go_wp2_with ((with_reducible refine skip_not ?_ ?_; (focus (simp [Region.wanted, yielded]; done)); try simp only [Act.put, List.setIfInBounds_toArray, List.set_cons_zero, List.set_cons_succ]))
    refine (fixed_ok _).mono ?_
    rintro r w3 ⟨rfl, hb⟩
    replace hB := hB.trans (hb.mono hB.size)
    clear hb 
    go_wp2_with fail
    go_ret
    exact ⟨rfl, hB⟩
  by_cases h1 : 7 < sI
  · clear a0 a1 a2 hcs ke
    go_wp2_with ((with_reducible refine skip_not ?_ ?_; (focus (simp [Region.wanted, yielded]; done)); try simp only [Act.put, List.setIfInBounds_toArray, List.set_cons_zero, List.set_cons_succ]))
    refine (fixed_ok _).mono ?_
    rintro r w3 ⟨rfl, hb⟩
    replace hB := hB.trans (hb.mono hB.size)
    clear hb 
    go_wp2_with fail
    go_ret
    exact ⟨rfl, hB⟩
  obtain ⟨s, rfl⟩ : ∃ s : Nat, sI = (s : Int) := ⟨sI.toNat, by omega⟩
  have hs : s < 8 := by omega
  go_upto_region 3 with ((with_reducible refine skip_not ?_ ?_; (focus (simp [Region.wanted, yielded]; done)); try simp only [Act.put, List.setIfInBounds_toArray, List.set_cons_zero, List.set_cons_succ]))
  clear h0 h1 c0
  have pA := adopt_ok c.pr (s : Int) c.own p
  have pB := adopt_ok p.pr (s : Int) c.own p
  rw [adopt_self p.pr (s : Int) c.own p rfl] at pB
  have pK := rcmp_ok p.pr c.pr
  have hab := adopt_above c.pr (s : Int) c.own p
  generalize adoptB c.pr (s : Int) c.own p = A at pA hab
  have pP := propose_ok c s hs hcs ke m
  have pQ : True := trivial
  obtain ⟨X, hX⟩ : ∃ X, propI c m = X := ⟨_, rfl⟩
  obtain ⟨B, hBB⟩ : ∃ X, proB c m = X := ⟨_, rfl⟩
  rw [hX, hBB] at pP
  have c0 := a0.cell 0 (.int .i64 c.self) rfl
  rw [hcs] at c0
  have c2 := a0.cell 2 (.int .u32 (c.own : Int)) rfl
  go_wp2_with (first | refine load_part rfl 27 _ rfl (o := 40) a0 rfl c.pr.vals c.p_pr Try.underlying27 rfl sizeIdn ?_ | refine load_blk rfl 43 _ rfl a1 rfl Try.underlying43 rfl sizePk ?_)
  refine (pA _).mono ?_
  rintro r w2 ⟨rfl, hb⟩
  clear c0 c2
  replace a0 := a0.below hb
  replace a1 := a1.below hb
  replace a2 := a2.below hb
  replace hB := hB.trans (hb.mono hB.size)
  clear hb pA
  have c0 := a0.cell 0 (.int .i64 c.self) rfl
  rw [hcs] at c0
  have c2 := a0.cell 2 (.int .u32 (c.own : Int)) rfl
  cases A with
  | false =>
    clear hab pB pK
    go_upto_region 5 with ((with_reducible refine skip_not ?_ ?_; (focus (simp [Region.wanted, yielded]; done)); try simp only [Act.put, List.setIfInBounds_toArray, List.set_cons_zero, List.set_cons_succ]))
    rename World => uu
    go_upto_region 5 with fail
    clear c0 c2
    go_wp2_with (first | refine load_blk rfl 35 _ rfl a0 rfl Try.underlying35 rfl sizeCo ?_ | refine load_blk rfl 28 _ rfl a2 rfl Try.underlying28 rfl sizeMb ?_)
    refine (pP _).mono ?_
    rintro r w4 ⟨rfl, hb⟩
    replace a0 := a0.below hb
    replace a1 := a1.below hb
    replace a2 := a2.below hb
    replace hB := hB.trans (hb.mono hB.size)
    clear hb pP
    have hb := below_box w4 (.cells X.arr 27)
    have a3 := blk_new w4 X.arr 27
    go_upto_region 6 with (first | refine alloc_zero zeroIdn rfl rfl ?_ | refine store_new rfl 27 _ _ rfl (cells := X.arr) rfl rfl sizeIdn rfl X.arr_one ?_)
    try simp only [Act.put, List.setIfInBounds_toArray, List.set_cons_zero, List.set_cons_succ]
    generalize w4.alloc (Obj.cells X.arr 27) = W4 at a3 hb ⊢
    replace a0 := a0.below hb
    replace a1 := a1.below hb
    replace a2 := a2.below hb
    replace hB := hB.trans (hb.mono hB.size)
    clear hb 
    generalize w4.heap.size = q7 at *
    cases hB0 : B with
    | false =>
      obtain rfl : X = Idn.zero := by rw [← hX]; exact pro_no c m (hBB.trans hB0)
      have kz : ∀ w, (binOp .eql 27 (.agg Idn.zero.arr) (.agg Idn.zero.arr)).run Try.prog w = .ok (.bool true) w := eqlIdn _ _ true (Idn.same_self _)
      clear hBB hX hB0 pQ
      go_wp2_with (first | refine load_blk rfl 27 _ rfl a3 rfl Try.underlying27 rfl sizeIdn ?_ | (refine build_as rfl 27 #[] rfl (C := Idn.zero.arr) ?_ ?_; kernel_rfl))
      go_ret
      exact ⟨rfl, hB⟩
    | true =>
      obtain ⟨hXe, hmax⟩ := pro_yes c m (hBB.trans hB0)
      rw [hX] at hXe
      have HA : Hid ((∀ i, i < 8 → (c.peers i).pr.e ≤ c.epoch) → proB (dC c m) m = false) := fun h => pro_again c m s hcs (hBB.trans hB0) h
      have e7 : X.e = c.epoch + 1 := by rw [hXe]
      have q0 := a0.cell 188 (.int .u32 (c.epoch : Int)) rfl
      have q1 := a0.cell 40 (.int .u32 (c.pr.e : Int)) rfl
      clear hBB hB0
      by_cases hlow : c.epoch < c.pr.e
      · have i0 : (c.epoch : Int) < (c.pr.e : Int) := by omega
        clear hX hXe hmax hlow pQ
        go_wp2_with fail
        go_ret
        exact ⟨rfl, hB⟩
      have i0 : ¬ (c.epoch : Int) < (c.pr.e : Int) := by omega
      have pC := rcmp_ok X c.pr
      rw [cmp_above X c.pr (by omega)] at pC
      have pG := propose_ok (dC c m) s hs hcs (by show (propI c m).e < 4294967296; rw [hX, e7]; omega) m
      clear e7 hXe hmax
      have l0 := a0.lt
      have l1 := a1.lt
      have l2 := a2.lt
      have l3 := a3.lt
      rename World => u8
      have hb := below_box u8 (.cells (coc c) 35)
      have a9 := blk_new u8 (coc c) 35
      go_upto_region 11 with (first | refine load_blk rfl 35 _ rfl a0 rfl Try.underlying35 rfl sizeCo ?_ | refine alloc_zero zeroCo rfl rfl ?_ | refine store_new rfl 35 _ _ rfl (cells := (coc c)) rfl rfl sizeCo rfl (coc_one _) ?_)
      try simp only [Act.put, List.setIfInBounds_toArray, List.set_cons_zero, List.set_cons_succ]
      generalize u8.alloc (Obj.cells (coc c) 35) = W9 at a9 hb ⊢
      replace a0 := a0.below hb
      replace a1 := a1.below hb
      replace a2 := a2.below hb
      replace a3 := a3.below hb
      replace hB := hB.trans (hb.mono hB.size)
      clear hb 
      clear q0 q1 i0
      generalize hq9 : u8.heap.size = q9 at *
      have q2 := a3.cell 0 (.int .u32 (X.e : Int)) rfl
      have hd : coc (dC c m) = coc ⟨c.self, c.wait, c.own, c.beat, c.conf, c.mem, c.count, c.ka, c.kn, c.kc, X, m, c.cut, c.rdy, c.peers, X.e⟩ := by rw [dC, hX]
      go_upto_region 14 with (first | (refine store_one rfl 22 _ _ rfl (off := 188) (.int .u32 (X.e : Int)) a9 rfl rfl rfl rfl sizeU32 (by show 188 + 1 ≤ 189; omega) ?_; intro w7 b7 k5; rw [Co.s_epoch] at b7; replace a0 := a0.kp1 k5 (by omega); replace a2 := a2.kp1 k5 (by omega); replace a3 := a3.kp1 k5 (by omega); replace hB : Below w.heap.size w w7 := hB.trans (k5.below1 (by omega) hB.size)) | refine load_blk rfl 27 _ rfl a3 rfl Try.underlying27 rfl sizeIdn ?_ | (refine store_part rfl 27 _ _ rfl (off := 40) (cells := X.arr) b7 rfl rfl sizeIdn (by show 40 + 3 ≤ 189; omega) X.arr_one ?_; intro w8 b8 k5; rw [Co.s_pr] at b8; replace a0 := a0.kp1 k5 (by omega); replace a2 := a2.kp1 k5 (by omega); replace a3 := a3.kp1 k5 (by omega); replace hB : Below w.heap.size w w8 := hB.trans (k5.below1 (by omega) hB.size)) | refine load_blk rfl 28 _ rfl a2 rfl Try.underlying28 rfl sizeMb ?_ | (refine store_part rfl 28 _ _ rfl (off := 43) (cells := mbc m) b8 rfl rfl sizeMb (by show 43 + 8 ≤ 189; omega) (mbc_one _) ?_; intro w9 b9 k5; rw [Co.s_want] at b9; replace a0 := a0.kp1 k5 (by omega); replace a2 := a2.kp1 k5 (by omega); replace a3 := a3.kp1 k5 (by omega); replace hB : Below w.heap.size w w9 := hB.trans (k5.below1 (by omega) hB.size)))
      try simp only [Act.put]
      have a9 : Blk q9 (coc (dC c m)) 35 w9 := by rw [hd]; exact b9
      clear b9 hd q2 hX
      go_wp2_with fail
      go_loopw [10] (fun iv wr => ∃ i : Nat, i ≤ 8 ∧ iv = .int .i64 i ∧ Hid (∀ j, j < i → (c.peers j).pr.e ≤ c.epoch) ∧ Below w9.heap.size w9 wr) (fun iv _ => 8 - (intOf iv).toNat)
      case atStart => exact ⟨0, by omega, rfl, fun j h => by omega, Below.refl _ _⟩
      case round =>
        obtain ⟨i, hi8, rfl, h0, hb⟩ := hrel
        by_cases hi : i < 8
        · have j0 : (i : Int) < 8 := by omega
          have j1 : (0 : Int) ≤ (i : Int) := by omega
          have b0 := a0.below hb
          have b9 := a9.below hb
          have hC0 := hb.drew
          go_upto_region 17 with fail
          by_cases hgt : c.epoch < (c.peers i).pr.e
          · have k1 : decide ((c.epoch : Int) < ((c.peers i).pr.e : Int)) = true := by simp; omega
            have k2 : decide (c.epoch < (c.peers i).pr.e) = true := by simp; omega
            have k3 : decide ((c.epoch : Int) < (((dC c m).peers i).pr.e : Int)) = true := k1
            have k4 : decide (c.epoch < ((dC c m).peers i).pr.e) = true := k2
            clear a0 a1 a2 a3 a9 pC pG HA h0 hgt
            refine wp_region_held_drew (S := fun w' => Blk w.heap.size (coc c) 35 w' ∧ Blk q9 (coc (dC c m)) 35 w') (by kernel_rfl) ⟨b0.drew, b9.drew⟩ (fun hHeld => ?_)
            refine wpAnyH_take (i := 0) (v := ?v62) rfl (by kernel_rfl) (by kernel_rfl) (by kernel_rfl) (fun _ _ _ h => h) (Or.inl ⟨by rfl, ?hy62⟩) hHeld ?rest62
            case hy62 => (intro w hSw; clear hSw; go_simp; try with_reducible rfl)
            try simp only [List.getElem_toArray]
            try simp only [List.getElem_cons_succ]
            try simp only [List.getElem_cons_zero]
            try simp only [Act.put]
            try simp only [List.setIfInBounds_toArray]
            try simp only [List.set_cons_succ]
            try simp only [List.set_cons_zero]
            refine wpAnyH_take (i := 1) (v := ?v63) rfl (by kernel_rfl) (by kernel_rfl) (by kernel_rfl) (fun _ _ _ h => h) (Or.inl ⟨by rfl, ?hy63⟩) hHeld ?rest63
            case hy63 => (intro w hSw; clear hSw; go_simp; try with_reducible rfl)
            try simp only [List.getElem_toArray]
            try simp only [List.getElem_cons_succ]
            try simp only [List.getElem_cons_zero]
            try simp only [Act.put]
            try simp only [List.setIfInBounds_toArray]
            try simp only [List.set_cons_succ]
            try simp only [List.set_cons_zero]
            refine wpAnyH_take (i := 2) (v := ?v64) rfl (by kernel_rfl) (by kernel_rfl) (by kernel_rfl) (fun _ _ _ h => h) (Or.inl ⟨by rfl, ?hy64⟩) hHeld ?rest64
            case hy64 => (intro w hSw; clear hSw; go_simp; try with_reducible rfl)
            try simp only [List.getElem_toArray]
            try simp only [List.getElem_cons_succ]
            try simp only [List.getElem_cons_zero]
            try simp only [Act.put]
            try simp only [List.setIfInBounds_toArray]
            try simp only [List.set_cons_succ]
            try simp only [List.set_cons_zero]
            refine wpAnyH_take (i := 3) (v := ?v65) rfl (by kernel_rfl) (by kernel_rfl) (by kernel_rfl) (fun _ _ _ h => h) (Or.inl ⟨by rfl, ?hy65⟩) hHeld ?rest65
            case hy65 => (intro w hSw; clear hSw; go_simp; try with_reducible rfl)
            try simp only [List.getElem_toArray]
            try simp only [List.getElem_cons_succ]
            try simp only [List.getElem_cons_zero]
            try simp only [Act.put]
            try simp only [List.setIfInBounds_toArray]
            try simp only [List.set_cons_succ]
            try simp only [List.set_cons_zero]
            refine wpAnyH_take (i := 4) (v := ?v66) rfl (by kernel_rfl) (by kernel_rfl) (by kernel_rfl) (fun _ _ _ h => h) (Or.inl ⟨by rfl, ?hy66⟩) hHeld ?rest66
            case hy66 => (intro w hSw; clear hSw; go_simp; try with_reducible rfl)
            try simp only [List.getElem_toArray]
            try simp only [List.getElem_cons_succ]
            try simp only [List.getElem_cons_zero]
            try simp only [Act.put]
            try simp only [List.setIfInBounds_toArray]
            try simp only [List.set_cons_succ]
            try simp only [List.set_cons_zero]
            refine wpAnyH_take (i := 5) (v := ?v67) rfl (by kernel_rfl) (by kernel_rfl) (by kernel_rfl) (fun _ _ _ h => h) (Or.inl ⟨by rfl, ?hy67⟩) hHeld ?rest67
            case hy67 => (intro w hSw; have hc := hSw.2.cell (60 + i * 16 + 4) _ ((dC c m).get_pep i hi); clear hSw; go_simp; try with_reducible rfl)
            try simp only [List.getElem_toArray]
            try simp only [List.getElem_cons_succ]
            try simp only [List.getElem_cons_zero]
            try simp only [Act.put]
            try simp only [List.setIfInBounds_toArray]
            try simp only [List.set_cons_succ]
            try simp only [List.set_cons_zero]
            refine wpAnyH_take (i := 6) (v := ?v68) rfl (by kernel_rfl) (by kernel_rfl) (by kernel_rfl) (fun _ _ _ h => h) (Or.inl ⟨by rfl, ?hy68⟩) hHeld ?rest68
            case hy68 => (intro w hSw; clear hSw; go_simp; try with_reducible rfl)
            try simp only [List.getElem_toArray]
            try simp only [List.getElem_cons_succ]
            try simp only [List.getElem_cons_zero]
            try simp only [Act.put]
            try simp only [List.setIfInBounds_toArray]
            try simp only [List.set_cons_succ]
            try simp only [List.set_cons_zero]
            refine wpAnyH_take (i := 7) (v := ?v69) rfl (by kernel_rfl) (by kernel_rfl) (by kernel_rfl) (fun _ _ _ h => h) (Or.inl ⟨by rfl, ?hy69⟩) hHeld ?rest69
            case hy69 => (intro w hSw; have hc := hSw.1.cell 188 (.int .u32 (c.epoch : Int)) rfl; clear hSw; go_simp; try with_reducible rfl)
            try simp only [List.getElem_toArray]
            try simp only [List.getElem_cons_succ]
            try simp only [List.getElem_cons_zero]
            try simp only [Act.put]
            try simp only [List.setIfInBounds_toArray]
            try simp only [List.set_cons_succ]
            try simp only [List.set_cons_zero]
            refine wpAnyH_take (i := 8) (v := ?v70) rfl (by kernel_rfl) (by kernel_rfl) (by kernel_rfl) (fun _ _ _ h => h) (Or.inl ⟨by rfl, ?hy70⟩) hHeld ?rest70
            case hy70 => (intro w hSw; clear hSw; go_simp; try with_reducible rfl)
            try simp only [List.getElem_toArray]
            try simp only [List.getElem_cons_succ]
            try simp only [List.getElem_cons_zero]
            try simp only [Act.put]
            try simp only [List.setIfInBounds_toArray]
            try simp only [List.set_cons_succ]
            try simp only [List.set_cons_zero]
            refine wpAnyH_done (by kernel_rfl) ?_ _
            clear hHeld
            replace hB := hB.trans (hC0.mono hB.size)
            go_wp2_with fail
            go_ret
            exact ⟨rfl, hB⟩
          · have HS : Hid (∀ j, j < i + 1 → (c.peers j).pr.e ≤ c.epoch) := fun j hj => by
              by_cases e : j = i
              · rw [e]; omega
              · exact h0.out j (by omega)
            have k1 : decide ((c.epoch : Int) < ((c.peers i).pr.e : Int)) = false := by simp; omega
            have k2 : decide (c.epoch < (c.peers i).pr.e) = false := by simp; omega
            have k3 : decide ((c.epoch : Int) < (((dC c m).peers i).pr.e : Int)) = false := k1
            have k4 : decide (c.epoch < ((dC c m).peers i).pr.e) = false := k2
            clear h0 hgt
            refine wp_region_held_drew (S := fun w' => Blk w.heap.size (coc c) 35 w' ∧ Blk q9 (coc (dC c m)) 35 w') (by kernel_rfl) ⟨b0.drew, b9.drew⟩ (fun hHeld => ?_)
            refine wpAnyH_take (i := 0) (v := ?v71) rfl (by kernel_rfl) (by kernel_rfl) (by kernel_rfl) (fun _ _ _ h => h) (Or.inl ⟨by rfl, ?hy71⟩) hHeld ?rest71
            case hy71 => (intro w hSw; clear hSw; go_simp; try with_reducible rfl)
            try simp only [List.getElem_toArray]
            try simp only [List.getElem_cons_succ]
            try simp only [List.getElem_cons_zero]
            try simp only [Act.put]
            try simp only [List.setIfInBounds_toArray]
            try simp only [List.set_cons_succ]
            try simp only [List.set_cons_zero]
            refine wpAnyH_take (i := 1) (v := ?v72) rfl (by kernel_rfl) (by kernel_rfl) (by kernel_rfl) (fun _ _ _ h => h) (Or.inl ⟨by rfl, ?hy72⟩) hHeld ?rest72
            case hy72 => (intro w hSw; clear hSw; go_simp; try with_reducible rfl)
            try simp only [List.getElem_toArray]
            try simp only [List.getElem_cons_succ]
            try simp only [List.getElem_cons_zero]
            try simp only [Act.put]
            try simp only [List.setIfInBounds_toArray]
            try simp only [List.set_cons_succ]
            try simp only [List.set_cons_zero]
            refine wpAnyH_take (i := 2) (v := ?v73) rfl (by kernel_rfl) (by kernel_rfl) (by kernel_rfl) (fun _ _ _ h => h) (Or.inl ⟨by rfl, ?hy73⟩) hHeld ?rest73
            case hy73 => (intro w hSw; clear hSw; go_simp; try with_reducible rfl)
            try simp only [List.getElem_toArray]
            try simp only [List.getElem_cons_succ]
            try simp only [List.getElem_cons_zero]
            try simp only [Act.put]
            try simp only [List.setIfInBounds_toArray]
            try simp only [List.set_cons_succ]
            try simp only [List.set_cons_zero]
            refine wpAnyH_take (i := 3) (v := ?v74) rfl (by kernel_rfl) (by kernel_rfl) (by kernel_rfl) (fun _ _ _ h => h) (Or.inl ⟨by rfl, ?hy74⟩) hHeld ?rest74
            case hy74 => (intro w hSw; clear hSw; go_simp; try with_reducible rfl)
            try simp only [List.getElem_toArray]
            try simp only [List.getElem_cons_succ]
            try simp only [List.getElem_cons_zero]
            try simp only [Act.put]
            try simp only [List.setIfInBounds_toArray]
            try simp only [List.set_cons_succ]
            try simp only [List.set_cons_zero]
            refine wpAnyH_take (i := 4) (v := ?v75) rfl (by kernel_rfl) (by kernel_rfl) (by kernel_rfl) (fun _ _ _ h => h) (Or.inl ⟨by rfl, ?hy75⟩) hHeld ?rest75
            case hy75 => (intro w hSw; clear hSw; go_simp; try with_reducible rfl)
            try simp only [List.getElem_toArray]
            try simp only [List.getElem_cons_succ]
            try simp only [List.getElem_cons_zero]
            try simp only [Act.put]
            try simp only [List.setIfInBounds_toArray]
            try simp only [List.set_cons_succ]
            try simp only [List.set_cons_zero]
            refine wpAnyH_take (i := 5) (v := ?v76) rfl (by kernel_rfl) (by kernel_rfl) (by kernel_rfl) (fun _ _ _ h => h) (Or.inl ⟨by rfl, ?hy76⟩) hHeld ?rest76
            case hy76 => (intro w hSw; have hc := hSw.2.cell (60 + i * 16 + 4) _ ((dC c m).get_pep i hi); clear hSw; go_simp; try with_reducible rfl)
            try simp only [List.getElem_toArray]
            try simp only [List.getElem_cons_succ]
            try simp only [List.getElem_cons_zero]
            try simp only [Act.put]
            try simp only [List.setIfInBounds_toArray]
            try simp only [List.set_cons_succ]
            try simp only [List.set_cons_zero]
            refine wpAnyH_take (i := 6) (v := ?v77) rfl (by kernel_rfl) (by kernel_rfl) (by kernel_rfl) (fun _ _ _ h => h) (Or.inl ⟨by rfl, ?hy77⟩) hHeld ?rest77
            case hy77 => (intro w hSw; clear hSw; go_simp; try with_reducible rfl)
            try simp only [List.getElem_toArray]
            try simp only [List.getElem_cons_succ]
            try simp only [List.getElem_cons_zero]
            try simp only [Act.put]
            try simp only [List.setIfInBounds_toArray]
            try simp only [List.set_cons_succ]
            try simp only [List.set_cons_zero]
            refine wpAnyH_take (i := 7) (v := ?v78) rfl (by kernel_rfl) (by kernel_rfl) (by kernel_rfl) (fun _ _ _ h => h) (Or.inl ⟨by rfl, ?hy78⟩) hHeld ?rest78
            case hy78 => (intro w hSw; have hc := hSw.1.cell 188 (.int .u32 (c.epoch : Int)) rfl; clear hSw; go_simp; try with_reducible rfl)
            try simp only [List.getElem_toArray]
            try simp only [List.getElem_cons_succ]
            try simp only [List.getElem_cons_zero]
            try simp only [Act.put]
            try simp only [List.setIfInBounds_toArray]
            try simp only [List.set_cons_succ]
            try simp only [List.set_cons_zero]
            refine wpAnyH_take (i := 8) (v := ?v79) rfl (by kernel_rfl) (by kernel_rfl) (by kernel_rfl) (fun _ _ _ h => h) (Or.inl ⟨by rfl, ?hy79⟩) hHeld ?rest79
            case hy79 => (intro w hSw; clear hSw; go_simp; try with_reducible rfl)
            try simp only [List.getElem_toArray]
            try simp only [List.getElem_cons_succ]
            try simp only [List.getElem_cons_zero]
            try simp only [Act.put]
            try simp only [List.setIfInBounds_toArray]
            try simp only [List.set_cons_succ]
            try simp only [List.set_cons_zero]
            refine wpAnyH_done (by kernel_rfl) ?_ _
            clear hHeld
            go_wp2_with fail
            exact ⟨⟨i + 1, by omega, by go_num, HS, hC0⟩, by simp [intOf]; omega⟩
        · obtain rfl : i = 8 := by omega
          have hF := HA.out h0.out
          rw [hF] at pG
          generalize propI (dC c m) m = Y at pG
          generalize dC c m = dd at *
          clear HA h0 hF
          replace a0 := a0.below hb
          replace a2 := a2.below hb
          replace a3 := a3.below hb
          replace a9 := a9.below hb
          replace hB := hB.trans (hb.mono hB.size)
          clear hb
          go_wp2_with (first | refine load_blk rfl 35 _ rfl a9 rfl Try.underlying35 rfl sizeCo ?_ | refine load_blk rfl 28 _ rfl a2 rfl Try.underlying28 rfl sizeMb ?_)
          refine (pG _).mono ?_
          rintro r w10 ⟨rfl, hb⟩
          replace a0 := a0.below hb
          replace a3 := a3.below hb
          replace hB := hB.trans (hb.mono hB.size)
          clear hb pG a9 a2
          have hb := below_box w10 (.cells Y.arr 27)
          have a11 := blk_new w10 Y.arr 27
          go_upto_region 20 with (first | refine alloc_zero zeroIdn rfl rfl ?_ | refine store_new rfl 27 _ _ rfl (cells := Y.arr) rfl rfl sizeIdn rfl Y.arr_one ?_)
          try simp only [Act.put, List.setIfInBounds_toArray, List.set_cons_zero, List.set_cons_succ]
          generalize w10.alloc (Obj.cells Y.arr 27) = W11 at a11 hb ⊢
          replace a0 := a0.below hb
          replace a3 := a3.below hb
          replace hB := hB.trans (hb.mono hB.size)
          clear hb 
          go_wp2_with (first | refine load_blk rfl 27 _ rfl a3 rfl Try.underlying27 rfl sizeIdn ?_ | refine load_part rfl 27 _ rfl (o := 40) a0 rfl c.pr.vals c.p_pr Try.underlying27 rfl sizeIdn ?_)
          refine (pC _).mono ?_
          rintro r w11 ⟨rfl, hb⟩
          replace hB := hB.trans (hb.mono hB.size)
          clear hb pC
          go_wp2_with fail
          go_ret
          exact ⟨rfl, hB⟩
  | true =>
    rw [hab rfl] at pK
    clear hab
    go_wp2_with (first | (with_reducible refine skip_not ?_ ?_; (focus (simp [Region.wanted, yielded]; done)); try simp only [Act.put, List.setIfInBounds_toArray, List.set_cons_zero, List.set_cons_succ]) | refine load_wpart rfl 27 _ rfl (o := 21) a1 rfl p.pr.vals p.p_pr Try.underlying27 rfl sizeIdn ?_ | refine load_want rfl 43 _ rfl a1 rfl Try.underlying43 rfl sizePk ?_)
    refine (pB _).mono ?_
    rintro r w3 ⟨rfl, hb⟩
    clear c0 c2
    replace a0 := a0.below hb
    replace a1 := a1.below hb
    replace a2 := a2.below hb
    replace hB := hB.trans (hb.mono hB.size)
    clear hb pB
    go_wp2_with (first | (with_reducible refine skip_not ?_ ?_; (focus (simp [Region.wanted, yielded]; done)); try simp only [Act.put, List.setIfInBounds_toArray, List.set_cons_zero, List.set_cons_succ]) | refine load_wpart rfl 27 _ rfl (o := 21) a1 rfl p.pr.vals p.p_pr Try.underlying27 rfl sizeIdn ?_ | refine load_wpart rfl 27 _ rfl (o := 40) a0 rfl c.pr.vals c.p_pr Try.underlying27 rfl sizeIdn ?_)
    refine (pK _).mono ?_
    rintro r w5 ⟨rfl, hb⟩
    replace a0 := a0.below hb
    replace a1 := a1.below hb
    replace a2 := a2.below hb
    replace hB := hB.trans (hb.mono hB.size)
    clear hb pK
    have c0 := a0.cell 0 (.int .i64 c.self) rfl
    rw [hcs] at c0
    have c2 := a0.cell 2 (.int .u32 (c.own : Int)) rfl
    go_upto_region 5 with ((with_reducible refine skip_not ?_ ?_; (focus (simp [Region.wanted, yielded]; done)); try simp only [Act.put, List.setIfInBounds_toArray, List.set_cons_zero, List.set_cons_succ]))
    go_upto_region 5 with fail
    clear c0 c2
    go_wp2_with (first | refine load_blk rfl 35 _ rfl a0 rfl Try.underlying35 rfl sizeCo ?_ | refine load_blk rfl 28 _ rfl a2 rfl Try.underlying28 rfl sizeMb ?_)
    refine (pP _).mono ?_
    rintro r w4 ⟨rfl, hb⟩
    replace a0 := a0.below hb
    replace a1 := a1.below hb
    replace a2 := a2.below hb
    replace hB := hB.trans (hb.mono hB.size)
    clear hb pP
    have hb := below_box w4 (.cells X.arr 27)
    have a3 := blk_new w4 X.arr 27
    go_upto_region 6 with (first | refine alloc_zero zeroIdn rfl rfl ?_ | refine store_new rfl 27 _ _ rfl (cells := X.arr) rfl rfl sizeIdn rfl X.arr_one ?_)
    try simp only [Act.put, List.setIfInBounds_toArray, List.set_cons_zero, List.set_cons_succ]
    generalize w4.alloc (Obj.cells X.arr 27) = W4 at a3 hb ⊢
    replace a0 := a0.below hb
    replace a1 := a1.below hb
    replace a2 := a2.below hb
    replace hB := hB.trans (hb.mono hB.size)
    clear hb 
    generalize w4.heap.size = q7 at *
    cases hB0 : B with
    | false =>
      obtain rfl : X = Idn.zero := by rw [← hX]; exact pro_no c m (hBB.trans hB0)
      have kz : ∀ w, (binOp .eql 27 (.agg Idn.zero.arr) (.agg Idn.zero.arr)).run Try.prog w = .ok (.bool true) w := eqlIdn _ _ true (Idn.same_self _)
      clear hBB hX hB0 pQ
      go_wp2_with (first | refine load_blk rfl 27 _ rfl a3 rfl Try.underlying27 rfl sizeIdn ?_ | (refine build_as rfl 27 #[] rfl (C := Idn.zero.arr) ?_ ?_; kernel_rfl))
      go_ret
      exact ⟨rfl, hB⟩
    | true =>
      obtain ⟨hXe, hmax⟩ := pro_yes c m (hBB.trans hB0)
      rw [hX] at hXe
      have HA : Hid ((∀ i, i < 8 → (c.peers i).pr.e ≤ c.epoch) → proB (dC c m) m = false) := fun h => pro_again c m s hcs (hBB.trans hB0) h
      have e7 : X.e = c.epoch + 1 := by rw [hXe]
      have q0 := a0.cell 188 (.int .u32 (c.epoch : Int)) rfl
      have q1 := a0.cell 40 (.int .u32 (c.pr.e : Int)) rfl
      clear hBB hB0
      by_cases hlow : c.epoch < c.pr.e
      · have i0 : (c.epoch : Int) < (c.pr.e : Int) := by omega
        clear hX hXe hmax hlow pQ
        go_wp2_with fail
        go_ret
        exact ⟨rfl, hB⟩
      have i0 : ¬ (c.epoch : Int) < (c.pr.e : Int) := by omega
      have pC := rcmp_ok X c.pr
      rw [cmp_above X c.pr (by omega)] at pC
      have pG := propose_ok (dC c m) s hs hcs (by show (propI c m).e < 4294967296; rw [hX, e7]; omega) m
      clear e7 hXe hmax
      have l0 := a0.lt
      have l1 := a1.lt
      have l2 := a2.lt
      have l3 := a3.lt
      rename World => u8
      have hb := below_box u8 (.cells (coc c) 35)
      have a9 := blk_new u8 (coc c) 35
      go_upto_region 11 with (first | refine load_blk rfl 35 _ rfl a0 rfl Try.underlying35 rfl sizeCo ?_ | refine alloc_zero zeroCo rfl rfl ?_ | refine store_new rfl 35 _ _ rfl (cells := (coc c)) rfl rfl sizeCo rfl (coc_one _) ?_)
      try simp only [Act.put, List.setIfInBounds_toArray, List.set_cons_zero, List.set_cons_succ]
      generalize u8.alloc (Obj.cells (coc c) 35) = W9 at a9 hb ⊢
      replace a0 := a0.below hb
      replace a1 := a1.below hb
      replace a2 := a2.below hb
      replace a3 := a3.below hb
      replace hB := hB.trans (hb.mono hB.size)
      clear hb 
      clear q0 q1 i0
      generalize hq9 : u8.heap.size = q9 at *
      have q2 := a3.cell 0 (.int .u32 (X.e : Int)) rfl
      have hd : coc (dC c m) = coc ⟨c.self, c.wait, c.own, c.beat, c.conf, c.mem, c.count, c.ka, c.kn, c.kc, X, m, c.cut, c.rdy, c.peers, X.e⟩ := by rw [dC, hX]
      go_upto_region 14 with (first | (refine store_one rfl 22 _ _ rfl (off := 188) (.int .u32 (X.e : Int)) a9 rfl rfl rfl rfl sizeU32 (by show 188 + 1 ≤ 189; omega) ?_; intro w7 b7 k5; rw [Co.s_epoch] at b7; replace a0 := a0.kp1 k5 (by omega); replace a2 := a2.kp1 k5 (by omega); replace a3 := a3.kp1 k5 (by omega); replace hB : Below w.heap.size w w7 := hB.trans (k5.below1 (by omega) hB.size)) | refine load_blk rfl 27 _ rfl a3 rfl Try.underlying27 rfl sizeIdn ?_ | (refine store_part rfl 27 _ _ rfl (off := 40) (cells := X.arr) b7 rfl rfl sizeIdn (by show 40 + 3 ≤ 189; omega) X.arr_one ?_; intro w8 b8 k5; rw [Co.s_pr] at b8; replace a0 := a0.kp1 k5 (by omega); replace a2 := a2.kp1 k5 (by omega); replace a3 := a3.kp1 k5 (by omega); replace hB : Below w.heap.size w w8 := hB.trans (k5.below1 (by omega) hB.size)) | refine load_blk rfl 28 _ rfl a2 rfl Try.underlying28 rfl sizeMb ?_ | (refine store_part rfl 28 _ _ rfl (off := 43) (cells := mbc m) b8 rfl rfl sizeMb (by show 43 + 8 ≤ 189; omega) (mbc_one _) ?_; intro w9 b9 k5; rw [Co.s_want] at b9; replace a0 := a0.kp1 k5 (by omega); replace a2 := a2.kp1 k5 (by omega); replace a3 := a3.kp1 k5 (by omega); replace hB : Below w.heap.size w w9 := hB.trans (k5.below1 (by omega) hB.size)))
      try simp only [Act.put]
      have a9 : Blk q9 (coc (dC c m)) 35 w9 := by rw [hd]; exact b9
      clear b9 hd q2 hX
      go_wp2_with fail
      go_loopw [10] (fun iv wr => ∃ i : Nat, i ≤ 8 ∧ iv = .int .i64 i ∧ Hid (∀ j, j < i → (c.peers j).pr.e ≤ c.epoch) ∧ Below w9.heap.size w9 wr) (fun iv _ => 8 - (intOf iv).toNat)
      case atStart => exact ⟨0, by omega, rfl, fun j h => by omega, Below.refl _ _⟩
      case round =>
        obtain ⟨i, hi8, rfl, h0, hb⟩ := hrel
        by_cases hi : i < 8
        · have j0 : (i : Int) < 8 := by omega
          have j1 : (0 : Int) ≤ (i : Int) := by omega
          have b0 := a0.below hb
          have b9 := a9.below hb
          have hC0 := hb.drew
          go_upto_region 17 with fail
          by_cases hgt : c.epoch < (c.peers i).pr.e
          · have k1 : decide ((c.epoch : Int) < ((c.peers i).pr.e : Int)) = true := by simp; omega
            have k2 : decide (c.epoch < (c.peers i).pr.e) = true := by simp; omega
            have k3 : decide ((c.epoch : Int) < (((dC c m).peers i).pr.e : Int)) = true := k1
            have k4 : decide (c.epoch < ((dC c m).peers i).pr.e) = true := k2
            clear a0 a1 a2 a3 a9 pC pG HA h0 hgt
            refine wp_region_held_drew (S := fun w' => Blk w.heap.size (coc c) 35 w' ∧ Blk q9 (coc (dC c m)) 35 w') (by kernel_rfl) ⟨b0.drew, b9.drew⟩ (fun hHeld => ?_)
            refine wpAnyH_take (i := 0) (v := ?v80) rfl (by kernel_rfl) (by kernel_rfl) (by kernel_rfl) (fun _ _ _ h => h) (Or.inl ⟨by rfl, ?hy80⟩) hHeld ?rest80
            case hy80 => (intro w hSw; clear hSw; go_simp; try with_reducible rfl)
            try simp only [List.getElem_toArray]
            try simp only [List.getElem_cons_succ]
            try simp only [List.getElem_cons_zero]
            try simp only [Act.put]
            try simp only [List.setIfInBounds_toArray]
            try simp only [List.set_cons_succ]
            try simp only [List.set_cons_zero]
            refine wpAnyH_take (i := 1) (v := ?v81) rfl (by kernel_rfl) (by kernel_rfl) (by kernel_rfl) (fun _ _ _ h => h) (Or.inl ⟨by rfl, ?hy81⟩) hHeld ?rest81
            case hy81 => (intro w hSw; clear hSw; go_simp; try with_reducible rfl)
            try simp only [List.getElem_toArray]
            try simp only [List.getElem_cons_succ]
            try simp only [List.getElem_cons_zero]
            try simp only [Act.put]
            try simp only [List.setIfInBounds_toArray]
            try simp only [List.set_cons_succ]
            try simp only [List.set_cons_zero]
            refine wpAnyH_take (i := 2) (v := ?v82) rfl (by kernel_rfl) (by kernel_rfl) (by kernel_rfl) (fun _ _ _ h => h) (Or.inl ⟨by rfl, ?hy82⟩) hHeld ?rest82
            case hy82 => (intro w hSw; clear hSw; go_simp; try with_reducible rfl)
            try simp only [List.getElem_toArray]
            try simp only [List.getElem_cons_succ]
            try simp only [List.getElem_cons_zero]
            try simp only [Act.put]
            try simp only [List.setIfInBounds_toArray]
            try simp only [List.set_cons_succ]
            try simp only [List.set_cons_zero]
            refine wpAnyH_take (i := 3) (v := ?v83) rfl (by kernel_rfl) (by kernel_rfl) (by kernel_rfl) (fun _ _ _ h => h) (Or.inl ⟨by rfl, ?hy83⟩) hHeld ?rest83
            case hy83 => (intro w hSw; clear hSw; go_simp; try with_reducible rfl)
            try simp only [List.getElem_toArray]
            try simp only [List.getElem_cons_succ]
            try simp only [List.getElem_cons_zero]
            try simp only [Act.put]
            try simp only [List.setIfInBounds_toArray]
            try simp only [List.set_cons_succ]
            try simp only [List.set_cons_zero]
            refine wpAnyH_take (i := 4) (v := ?v84) rfl (by kernel_rfl) (by kernel_rfl) (by kernel_rfl) (fun _ _ _ h => h) (Or.inl ⟨by rfl, ?hy84⟩) hHeld ?rest84
            case hy84 => (intro w hSw; clear hSw; go_simp; try with_reducible rfl)
            try simp only [List.getElem_toArray]
            try simp only [List.getElem_cons_succ]
            try simp only [List.getElem_cons_zero]
            try simp only [Act.put]
            try simp only [List.setIfInBounds_toArray]
            try simp only [List.set_cons_succ]
            try simp only [List.set_cons_zero]
            refine wpAnyH_take (i := 5) (v := ?v85) rfl (by kernel_rfl) (by kernel_rfl) (by kernel_rfl) (fun _ _ _ h => h) (Or.inl ⟨by rfl, ?hy85⟩) hHeld ?rest85
            case hy85 => (intro w hSw; have hc := hSw.2.cell (60 + i * 16 + 4) _ ((dC c m).get_pep i hi); clear hSw; go_simp; try with_reducible rfl)
            try simp only [List.getElem_toArray]
            try simp only [List.getElem_cons_succ]
            try simp only [List.getElem_cons_zero]
            try simp only [Act.put]
            try simp only [List.setIfInBounds_toArray]
            try simp only [List.set_cons_succ]
            try simp only [List.set_cons_zero]
            refine wpAnyH_take (i := 6) (v := ?v86) rfl (by kernel_rfl) (by kernel_rfl) (by kernel_rfl) (fun _ _ _ h => h) (Or.inl ⟨by rfl, ?hy86⟩) hHeld ?rest86
            case hy86 => (intro w hSw; clear hSw; go_simp; try with_reducible rfl)
            try simp only [List.getElem_toArray]
            try simp only [List.getElem_cons_succ]
            try simp only [List.getElem_cons_zero]
            try simp only [Act.put]
            try simp only [List.setIfInBounds_toArray]
            try simp only [List.set_cons_succ]
            try simp only [List.set_cons_zero]
            refine wpAnyH_take (i := 7) (v := ?v87) rfl (by kernel_rfl) (by kernel_rfl) (by kernel_rfl) (fun _ _ _ h => h) (Or.inl ⟨by rfl, ?hy87⟩) hHeld ?rest87
            case hy87 => (intro w hSw; have hc := hSw.1.cell 188 (.int .u32 (c.epoch : Int)) rfl; clear hSw; go_simp; try with_reducible rfl)
            try simp only [List.getElem_toArray]
            try simp only [List.getElem_cons_succ]
            try simp only [List.getElem_cons_zero]
            try simp only [Act.put]
            try simp only [List.setIfInBounds_toArray]
            try simp only [List.set_cons_succ]
            try simp only [List.set_cons_zero]
            refine wpAnyH_take (i := 8) (v := ?v88) rfl (by kernel_rfl) (by kernel_rfl) (by kernel_rfl) (fun _ _ _ h => h) (Or.inl ⟨by rfl, ?hy88⟩) hHeld ?rest88
            case hy88 => (intro w hSw; clear hSw; go_simp; try with_reducible rfl)
            try simp only [List.getElem_toArray]
            try simp only [List.getElem_cons_succ]
            try simp only [List.getElem_cons_zero]
            try simp only [Act.put]
            try simp only [List.setIfInBounds_toArray]
            try simp only [List.set_cons_succ]
            try simp only [List.set_cons_zero]
            refine wpAnyH_done (by kernel_rfl) ?_ _
            clear hHeld
            replace hB := hB.trans (hC0.mono hB.size)
            go_wp2_with fail
            go_ret
            exact ⟨rfl, hB⟩
          · have HS : Hid (∀ j, j < i + 1 → (c.peers j).pr.e ≤ c.epoch) := fun j hj => by
              by_cases e : j = i
              · rw [e]; omega
              · exact h0.out j (by omega)
            have k1 : decide ((c.epoch : Int) < ((c.peers i).pr.e : Int)) = false := by simp; omega
            have k2 : decide (c.epoch < (c.peers i).pr.e) = false := by simp; omega
            have k3 : decide ((c.epoch : Int) < (((dC c m).peers i).pr.e : Int)) = false := k1
            have k4 : decide (c.epoch < ((dC c m).peers i).pr.e) = false := k2
            clear h0 hgt
            refine wp_region_held_drew (S := fun w' => Blk w.heap.size (coc c) 35 w' ∧ Blk q9 (coc (dC c m)) 35 w') (by kernel_rfl) ⟨b0.drew, b9.drew⟩ (fun hHeld => ?_)
            refine wpAnyH_take (i := 0) (v := ?v89) rfl (by kernel_rfl) (by kernel_rfl) (by kernel_rfl) (fun _ _ _ h => h) (Or.inl ⟨by rfl, ?hy89⟩) hHeld ?rest89
            case hy89 => (intro w hSw; clear hSw; go_simp; try with_reducible rfl)
            try simp only [List.getElem_toArray]
            try simp only [List.getElem_cons_succ]
            try simp only [List.getElem_cons_zero]
            try simp only [Act.put]
            try simp only [List.setIfInBounds_toArray]
            try simp only [List.set_cons_succ]
            try simp only [List.set_cons_zero]
            refine wpAnyH_take (i := 1) (v := ?v90) rfl (by kernel_rfl) (by kernel_rfl) (by kernel_rfl) (fun _ _ _ h => h) (Or.inl ⟨by rfl, ?hy90⟩) hHeld ?rest90
            case hy90 => (intro w hSw; clear hSw; go_simp; try with_reducible rfl)
            try simp only [List.getElem_toArray]
            try simp only [List.getElem_cons_succ]
            try simp only [List.getElem_cons_zero]
            try simp only [Act.put]
            try simp only [List.setIfInBounds_toArray]
            try simp only [List.set_cons_succ]
            try simp only [List.set_cons_zero]
            refine wpAnyH_take (i := 2) (v := ?v91) rfl (by kernel_rfl) (by kernel_rfl) (by kernel_rfl) (fun _ _ _ h => h) (Or.inl ⟨by rfl, ?hy91⟩) hHeld ?rest91
            case hy91 => (intro w hSw; clear hSw; go_simp; try with_reducible rfl)
            try simp only [List.getElem_toArray]
            try simp only [List.getElem_cons_succ]
            try simp only [List.getElem_cons_zero]
            try simp only [Act.put]
            try simp only [List.setIfInBounds_toArray]
            try simp only [List.set_cons_succ]
            try simp only [List.set_cons_zero]
            refine wpAnyH_take (i := 3) (v := ?v92) rfl (by kernel_rfl) (by kernel_rfl) (by kernel_rfl) (fun _ _ _ h => h) (Or.inl ⟨by rfl, ?hy92⟩) hHeld ?rest92
            case hy92 => (intro w hSw; clear hSw; go_simp; try with_reducible rfl)
            try simp only [List.getElem_toArray]
            try simp only [List.getElem_cons_succ]
            try simp only [List.getElem_cons_zero]
            try simp only [Act.put]
            try simp only [List.setIfInBounds_toArray]
            try simp only [List.set_cons_succ]
            try simp only [List.set_cons_zero]
            refine wpAnyH_take (i := 4) (v := ?v93) rfl (by kernel_rfl) (by kernel_rfl) (by kernel_rfl) (fun _ _ _ h => h) (Or.inl ⟨by rfl, ?hy93⟩) hHeld ?rest93
            case hy93 => (intro w hSw; clear hSw; go_simp; try with_reducible rfl)
            try simp only [List.getElem_toArray]
            try simp only [List.getElem_cons_succ]
            try simp only [List.getElem_cons_zero]
            try simp only [Act.put]
            try simp only [List.setIfInBounds_toArray]
            try simp only [List.set_cons_succ]
            try simp only [List.set_cons_zero]
            refine wpAnyH_take (i := 5) (v := ?v94) rfl (by kernel_rfl) (by kernel_rfl) (by kernel_rfl) (fun _ _ _ h => h) (Or.inl ⟨by rfl, ?hy94⟩) hHeld ?rest94
            case hy94 => (intro w hSw; have hc := hSw.2.cell (60 + i * 16 + 4) _ ((dC c m).get_pep i hi); clear hSw; go_simp; try with_reducible rfl)
            try simp only [List.getElem_toArray]
            try simp only [List.getElem_cons_succ]
            try simp only [List.getElem_cons_zero]
            try simp only [Act.put]
            try simp only [List.setIfInBounds_toArray]
            try simp only [List.set_cons_succ]
            try simp only [List.set_cons_zero]
            refine wpAnyH_take (i := 6) (v := ?v95) rfl (by kernel_rfl) (by kernel_rfl) (by kernel_rfl) (fun _ _ _ h => h) (Or.inl ⟨by rfl, ?hy95⟩) hHeld ?rest95
            case hy95 => (intro w hSw; clear hSw; go_simp; try with_reducible rfl)
            try simp only [List.getElem_toArray]
            try simp only [List.getElem_cons_succ]
            try simp only [List.getElem_cons_zero]
            try simp only [Act.put]
            try simp only [List.setIfInBounds_toArray]
            try simp only [List.set_cons_succ]
            try simp only [List.set_cons_zero]
            refine wpAnyH_take (i := 7) (v := ?v96) rfl (by kernel_rfl) (by kernel_rfl) (by kernel_rfl) (fun _ _ _ h => h) (Or.inl ⟨by rfl, ?hy96⟩) hHeld ?rest96
            case hy96 => (intro w hSw; have hc := hSw.1.cell 188 (.int .u32 (c.epoch : Int)) rfl; clear hSw; go_simp; try with_reducible rfl)
            try simp only [List.getElem_toArray]
            try simp only [List.getElem_cons_succ]
            try simp only [List.getElem_cons_zero]
            try simp only [Act.put]
            try simp only [List.setIfInBounds_toArray]
            try simp only [List.set_cons_succ]
            try simp only [List.set_cons_zero]
            refine wpAnyH_take (i := 8) (v := ?v97) rfl (by kernel_rfl) (by kernel_rfl) (by kernel_rfl) (fun _ _ _ h => h) (Or.inl ⟨by rfl, ?hy97⟩) hHeld ?rest97
            case hy97 => (intro w hSw; clear hSw; go_simp; try with_reducible rfl)
            try simp only [List.getElem_toArray]
            try simp only [List.getElem_cons_succ]
            try simp only [List.getElem_cons_zero]
            try simp only [Act.put]
            try simp only [List.setIfInBounds_toArray]
            try simp only [List.set_cons_succ]
            try simp only [List.set_cons_zero]
            refine wpAnyH_done (by kernel_rfl) ?_ _
            clear hHeld
            go_wp2_with fail
            exact ⟨⟨i + 1, by omega, by go_num, HS, hC0⟩, by simp [intOf]; omega⟩
        · obtain rfl : i = 8 := by omega
          have hF := HA.out h0.out
          rw [hF] at pG
          generalize propI (dC c m) m = Y at pG
          generalize dC c m = dd at *
          clear HA h0 hF
          replace a0 := a0.below hb
          replace a2 := a2.below hb
          replace a3 := a3.below hb
          replace a9 := a9.below hb
          replace hB := hB.trans (hb.mono hB.size)
          clear hb
          go_wp2_with (first | refine load_blk rfl 35 _ rfl a9 rfl Try.underlying35 rfl sizeCo ?_ | refine load_blk rfl 28 _ rfl a2 rfl Try.underlying28 rfl sizeMb ?_)
          refine (pG _).mono ?_
          rintro r w10 ⟨rfl, hb⟩
          replace a0 := a0.below hb
          replace a3 := a3.below hb
          replace hB := hB.trans (hb.mono hB.size)
          clear hb pG a9 a2
          have hb := below_box w10 (.cells Y.arr 27)
          have a11 := blk_new w10 Y.arr 27
          go_upto_region 20 with (first | refine alloc_zero zeroIdn rfl rfl ?_ | refine store_new rfl 27 _ _ rfl (cells := Y.arr) rfl rfl sizeIdn rfl Y.arr_one ?_)
          try simp only [Act.put, List.setIfInBounds_toArray, List.set_cons_zero, List.set_cons_succ]
          generalize w10.alloc (Obj.cells Y.arr 27) = W11 at a11 hb ⊢
          replace a0 := a0.below hb
          replace a3 := a3.below hb
          replace hB := hB.trans (hb.mono hB.size)
          clear hb 
          go_wp2_with (first | refine load_blk rfl 27 _ rfl a3 rfl Try.underlying27 rfl sizeIdn ?_ | refine load_part rfl 27 _ rfl (o := 40) a0 rfl c.pr.vals c.p_pr Try.underlying27 rfl sizeIdn ?_)
          refine (pC _).mono ?_
          rintro r w11 ⟨rfl, hb⟩
          replace hB := hB.trans (hb.mono hB.size)
          clear hb pC
          go_wp2_with fail
          go_ret
          exact ⟨rfl, hB⟩

set_option maxRecDepth 100000 in
theorem lifted (os : Go.Os) (started : os.Started) (H : Type) (enc : TypeId × Value → H) :
    ReturnsInHanded {} Try.checked os 7 .any (Rows.gatherOnceSpec.pre6 enc Try.prog Try.f7 Rows.gatherOnceRow.domain false) (Rows.gatherOnceSpec.post enc Try.prog Try.f7 false true false false) := by
  refine returnsInHanded_of_change_sized (C := Try.checked) own started (by kernel_rfl) Try.func7
    (ChangeSpec.witness6 (enc := enc) (C := Try.checked) false ⟨#[], #[.agg (coc Co.zero), .agg (pkc Pk.zero), .agg (mbc noMb)], []⟩ 8 (by kernel_rfl) (by kernel_rfl) (by kernel_rfl) (by kernel_rfl)) ?_
  intro W base args ds gs before hval0 hW hcnd hsz0 _
  have hval : ∀ (j : Nat) t v, Try.f7.params[j]? = some t → args[j]? = some v → Value.okWide Try.prog W .any base t v := hval0
  have hsz : (DataW.weightsEach Try.prog (Try.f7.params.toList ++ Rows.gatherOnceSpec.plain.varTypes Try.prog) (ds ++ gs)).all (· ≤ reachBytes) = true := hsz0
  have hW' := hW
  obtain ⟨p, q, hA0, hV, rfl, hfz, hnd⟩ := hW
  have hA : DataW.TrodAll enc Try.prog W 0 (fun _ => true) true Try.f7.params.toList args.toList ds p := hA0
  rw [Try.params7] at hA hval hsz

  obtain ⟨v0, vs0, d0, ds0, p0, q0, hargs, rfl, rfl, h0, r0⟩ := trodAll_cons hA
  obtain ⟨v1, vs1, d1, ds1, p1, q1, rfl, rfl, rfl, h1, r1⟩ := trodAll_cons r0
  obtain ⟨v2, vs2, d2, ds2, p2, q2, rfl, rfl, rfl, h2, r2⟩ := trodAll_cons r1
  obtain ⟨rfl, rfl, rfl⟩ := trodAll_nil r2
  obtain rfl : args = #[v0, v1, v2] := by cases args; simp_all
  obtain ⟨rfl, rfl⟩ := trodVars_none hV
  obtain ⟨c0, L0, rfl, kf0, kn0, kl0, hS0⟩ := open_core (by obtain ⟨cs, h1, _⟩ := okWide_struct Try.underlying35 (hval 0 35 v0 rfl rfl); exact ⟨cs, h1⟩) (fun n hn => of_decide_eq_true (List.all_eq_true.1 hsz _ (DataW.weights_mem_each (j := 0) rfl rfl n hn))) h0
  obtain ⟨p1_, rfl⟩ := open_packet (by obtain ⟨cs, h1, _⟩ := okWide_struct Try.underlying43 (hval 1 43 v1 rfl rfl); exact ⟨cs, h1⟩) h1
  obtain ⟨m2, rfl⟩ := open_mb (by obtain ⟨cs, h1, _⟩ := (by simpa only [Value.okWide, Try.underlying28] using hval 2 28 v2 rfl rfl : ∃ cs, v2 = .agg cs ∧ _); exact ⟨cs, h1⟩) h2
  have hA2 := hA0
  clear hA0 hval0 hsz0
  simp only [List.append_nil] at hW'
  refine (walk c0 kf0 p1_ m2 W).mono fun e W' ⟨he, bel⟩ => ?_
  subst he
  exact ⟨_, rfl, _, _, _, [], _, [], hW', trodAll_mk1 (shut_bool Try.underlying4 _), (stays_all laidOut bel (by kernel_rfl) hA2), rfl, bel.frame _, fun h => by cases h⟩

theorem over : Rows.gatherOnceRow.holds Try.pinned (OpenSpec.ofChange Rows.gatherOnceSpec) :=
  OpenClaim.holds_of_wide 7 Try.f7 rfl rfl rfl rfl rfl rfl rfl ⟨rfl, rfl, rfl, rfl, rfl⟩ rfl rfl rfl rfl rfl (by kernel_rfl) Try.func7 (by kernel_rfl)
    (of_decide_eq_true (by kernel_rfl)) (by unfold Func.isWrapper; first | (rw [if_pos (by decide +kernel)]; kernel_rfl) | (rw [if_neg (by decide +kernel)]; exact ⟨rfl, rfl⟩))
    (fun os started H enc _ => lifted os started H enc)

end Go.Proofs.Ytbmhfnallpcmpaa.gatherOnce
namespace Go.Proofs.Ytbmhfnallpcmpaa

theorem gatherOnce_holds : Rows.GatherOnceSaid := gatherOnce.over
#print axioms gatherOnce_holds

end Go.Proofs.Ytbmhfnallpcmpaa
