/-
  Who stays of a table, and then of others, is who stays of those that are in both; a group's view of who stays is who stays of its view: the law GroupKeeps returns true for every input.
  No condition beyond the form's own.
-/
import Derived.Test.YthkomehnhadmlaaRows
import Derived.Test.YthkomehnhadmlaaGrF
import Derived.WalkKit
import Derived.ProofKit
import Derived.OpenShut
import Derived.ShutString
import Derived.SizedLaws
import Derived.ChangeOld
import Derived.Below
namespace Go.Proofs.Ythkomehnhadmlaa.groupKeeps
open Go.Sort Go.ChangeShapes Go.WideShapes Go.ChangeAt Go.RowKit
open Go.ChangeMaps (open_string shut_string)
set_option linter.unusedVariables false
set_option maxRecDepth 10000

theorem own : ownKnob Try.prog.godebug = none := by kernel_rfl
theorem length_bytes (s : ByteArray) : s.data.toList.length = s.size := by rw [Array.length_toList]; rfl

theorem view_keep (g : Int) (m : Nat → Nat) (L : List Mr) : viewM g (keepM m L) = keepM m (viewM g L) := by
  unfold viewM keepM
  rw [List.filter_filter, List.filter_filter]
  congr 1
  funext x
  rw [Bool.and_comm]
def bothTo (m n : Nat → Nat) (j : Nat) : Nat → Nat := fun i => if i < j ∧ n i ≠ 0 then m i else 0
theorem both_zero (m n : Nat → Nat) : mbc (bothTo m n 0) = mbc noMb := rfl
theorem both_set (m n : Nat → Nat) (j : Nat) (hj : j < 8) (h : n j ≠ 0) : (mbc (bothTo m n j)).setIfInBounds j (.int .u32 (m j : Int)) = mbc (bothTo m n (j + 1)) := by
  rw [mbc_set _ j _ hj]
  apply mbc_ext
  intro i hi
  unfold bothTo
  by_cases e : i = j
  · subst e; simp [h]
  · by_cases l : i < j
    · simp [e, l, show i < j + 1 by omega]
    · simp [e, l, show ¬ i < j + 1 by omega]
theorem both_skip (m n : Nat → Nat) (j : Nat) (h : n j = 0) : mbc (bothTo m n j) = mbc (bothTo m n (j + 1)) := by
  apply mbc_ext
  intro i hi
  unfold bothTo
  by_cases e : i = j
  · subst e; simp [h]
  · by_cases l : i < j
    · simp [l, show i < j + 1 by omega]
    · simp [l, show ¬ i < j + 1 by omega]
theorem keep_keep (m n : Nat → Nat) (L : List Mr) : keepM n (keepM m L) = keepM (bothTo m n 8) L := by
  unfold keepM
  rw [List.filter_filter]
  congr 1
  funext x
  rw [Bool.eq_iff_iff, Bool.and_eq_true, decide_eq_true_eq, decide_eq_true_eq, decide_eq_true_eq]
  unfold bothTo
  constructor
  · rintro ⟨⟨h1, h2, h3⟩, _, _, h4⟩
    exact ⟨h1, h2, by rw [if_pos ⟨by omega, h3⟩]; exact h4⟩
  · rintro ⟨h1, h2, h3⟩
    by_cases h4 : n x.d.toNat ≠ 0
    · rw [if_pos ⟨by omega, h4⟩] at h3
      exact ⟨⟨h1, h2, h4⟩, h1, h2, h3⟩
    · rw [if_neg (fun h => h4 h.2)] at h3
      exact absurd rfl h3
theorem keep_len (m : Nat → Nat) (L : List Mr) : (keepM m L).length ≤ L.length := List.length_filter_le _ _
theorem view_len (g : Int) (L : List Mr) : (viewM g L).length ≤ L.length := List.length_filter_le _ _

set_option maxHeartbeats 8000000 in
theorem walk (la : Option Addr) (L : List Mr) (lc : Nat) (lz : L.length * 24 ≤ 140737488351232) (lk : L.length ≤ lc) (lm : lc ≤ maxLen) (ls : ∀ x ∈ L, x.fit) (m n : Nat → Nat) (w : World) (hL : Li Mr.vals 0 la L w) :
    Calls Try.prog 6 #[.slice la L.length lc, .agg (mbc m), .agg (mbc n)] w fun e w' => e = .returned (.bool true) ∧ Below w.heap.size w w' := by
  obtain ⟨a1, a2, a3, hB⟩ := three_blk (T0 := 28) (T1 := 28) (T2 := 28) (C0 := mbc m) (C1 := mbc n) (C2 := mbc noMb) (w := w) rfl
  obtain ⟨nl, hnl⟩ : ∃ x, Hid (L.length = x) := ⟨_, rfl⟩
  rw [hnl.out]
  have l1 := keep_len m L
  have l2 := keep_len (bothTo m n 8) L
  have pK1 := gkeep_ok m L la lc (by omega)
  have pK2 := fun a c => gkeep_ok n (keepM m L) a c (by omega)
  have pK3 := gkeep_ok (bothTo m n 8) L la lc (by omega)
  have pS1 := fun a b c d => rsameM_ok (keepM (bothTo m n 8) L) a b c d (by omega)
  rw [keep_keep] at pK2
  have hv1 := fun g => view_len g L
  have hv2 := fun g => view_len g (keepM m L)
  go_enter Try.func6, Try.ntmps6
  go_upto_region 2 with (go_big_may; first | refine build_zero builtMb rfl rfl ?_ | refine alloc_zero zeroMb rfl rfl ?_ | refine store_same rfl 28 _ _ rfl (blk_new _ _ _) rfl rfl sizeMb (mbc_one _) ?_)
  try simp only [Act.put, List.setIfInBounds_toArray, List.set_cons_zero, List.set_cons_succ]
  try simp only [alloc_size]
  generalize hW : ((w.alloc (Obj.cells (mbc m) 28)).alloc (Obj.cells (mbc n) 28)).alloc (Obj.cells (mbc noMb) 28) = W at a1 a2 a3 hB ⊢
  clear hW
  rw [← both_zero m n] at a3
  go_wp2_with fail
  go_loopw [8] (fun iv wr => ∃ j : Nat, j ≤ 8 ∧ iv = .int .i64 j ∧ Blk w.heap.size (mbc m) 28 wr ∧ Blk (w.heap.size + 1) (mbc n) 28 wr ∧ Blk (w.heap.size + 1 + 1) (mbc (bothTo m n j)) 28 wr ∧ Below w.heap.size w wr) (fun iv _ => 8 - (intOf iv).toNat)
  case atStart => exact ⟨0, by omega, rfl, a1, a2, a3, hB⟩
  case round =>
    clear a1 a2 a3 hB
    obtain ⟨j, hj, rfl, a1, a2, a3, hB⟩ := hrel
    rename World => w9
    by_cases hj8 : j < 8
    · have j0 : (j : Int) < 8 := by omega
      have j1 : (0 : Int) ≤ (j : Int) := by omega
      have q1 : w9.cell? ⟨w.heap.size, j, none⟩ = some (.int .u32 (m j : Int)) := a1.cell j _ (mbc_get m j hj8)
      have q2 : w9.cell? ⟨w.heap.size + 1, j, none⟩ = some (.int .u32 (n j : Int)) := a2.cell j _ (mbc_get n j hj8)
      clear pK1 pK2 pK3 pS1 hv1 hv2 l1 l2
      by_cases h0 : n j = 0
      · have d0 : ((n j : Int) != 0) = false := by simp [h0]
        rw [both_skip m n j h0] at a3
        clear h0
        go_wp2_with fail
        exact ⟨⟨j + 1, by omega, by go_num, a1, a2, a3, hB⟩, by simp [intOf]; omega⟩
      · have d0 : ((n j : Int) != 0) = true := by simp [h0]
        have hst := both_set m n j hj8 h0
        clear h0
        go_wp2_with (refine store_one rfl 26 _ _ rfl (off := j) (.int .u32 (m j : Int)) a3 rfl rfl rfl rfl sizeU32 (by rw [mbc_size]; omega) ?_; intro w2 b2 k2; rw [hst] at b2; have a12 := a1.kp1 k2 (by omega); have a22 := a2.kp1 k2 (by omega); have hB2 : Below w.heap.size w w2 := hB.trans (k2.below (by simp; omega) hB.size))
        exact ⟨⟨j + 1, by omega, by go_num, a12, a22, b2, hB2⟩, by simp [intOf]; omega⟩
    · have e8 : j = 8 := by omega
      have j8 : decide ((j : Int) < 8) = false := by rw [e8]; decide
      have j9 : ¬ (j : Int) < 8 := by omega
      rw [e8] at a3
      clear e8 hj8 hj
      have pK10 := pK1
      unfold MadeMr at pK10 pK2 pK3
      generalize keepM (bothTo m n 8) L = R at pK2 pK3 pS1
      generalize R.length = nr at pK2 pK3 pS1
      obtain ⟨P, hP9⟩ : ∃ P, Hid (keepM m L = P) := ⟨_, rfl⟩
      rw [hP9.out] at pK10 pK2
      generalize P.length = np at pK10 pK2
      rw [hnl.out] at pK10 pK3
      go_upto_region 7 with fail
      try simp only [Act.put, List.setIfInBounds_toArray, List.set_cons_zero, List.set_cons_succ]
      refine wp_region_held_drew (S := fun v => Below w9.heap.size w9 v) (by kernel_rfl) ((Below.refl _ _).drew) (fun hHeld => ?_)
      refine wpAnyH_ready (rs := [0]) (by kernel_rfl) (by simp) ?_
      refine AllReadyH.cons rfl (fun K hK => ?_) (AllReadyH.nil)
      go_simp
      go_wp2_with (refine (fixed_ok _).mono ?_; rintro r u1 ⟨rfl, hb⟩)
      refine hK.out _ _ (below_next hHeld hb) (fun hHeld => ?_)
      clear hK K hb
      refine wpAnyH_take (i := 1) (v := ?v100) rfl (by kernel_rfl) (by kernel_rfl) (by kernel_rfl) (fun _ _ _ h => h) (Or.inl ⟨by rfl, ?hy100⟩) hHeld ?rest100
      case hy100 => (intro w hSw; clear hSw; go_simp; try with_reducible rfl)
      try simp only [List.getElem_toArray]
      try simp only [List.getElem_cons_succ]
      try simp only [List.getElem_cons_zero]
      try simp only [Act.put]
      try simp only [List.setIfInBounds_toArray]
      try simp only [List.set_cons_succ]
      try simp only [List.set_cons_zero]
      refine wpAnyH_take (i := 2) (v := ?v101) rfl (by kernel_rfl) (by kernel_rfl) (by kernel_rfl) (fun _ _ _ h => h) (Or.inl ⟨by rfl, ?hy101⟩) hHeld ?rest101
      case hy101 => (intro w hSw; clear hSw; go_simp; try with_reducible rfl)
      try simp only [List.getElem_toArray]
      try simp only [List.getElem_cons_succ]
      try simp only [List.getElem_cons_zero]
      try simp only [Act.put]
      try simp only [List.setIfInBounds_toArray]
      try simp only [List.set_cons_succ]
      try simp only [List.set_cons_zero]
      refine wpAnyH_take (i := 3) (v := ?v102) rfl (by kernel_rfl) (by kernel_rfl) (by kernel_rfl) (fun _ _ _ h => h) (Or.inl ⟨by rfl, ?hy102⟩) hHeld ?rest102
      case hy102 => (intro w hSw; clear hSw; go_simp; try with_reducible rfl)
      try simp only [List.getElem_toArray]
      try simp only [List.getElem_cons_succ]
      try simp only [List.getElem_cons_zero]
      try simp only [Act.put]
      try simp only [List.setIfInBounds_toArray]
      try simp only [List.set_cons_succ]
      try simp only [List.set_cons_zero]
      refine' wpAnyH_take (i := 4) (v := _) rfl (by kernel_rfl) (by kernel_rfl) (by kernel_rfl) (fun _ _ _ h => h) (yieldsIf_load_mid (by rfl) _ _ rfl w.heap.size 0 rfl (row8 m) _ ?hS103 Try.underlying28 rfl sizeMb) hHeld ?rest103
      case hS103 => exact fun w h => ((a1.below h).whole)
      try simp only [List.getElem_toArray]
      try simp only [List.getElem_cons_succ]
      try simp only [List.getElem_cons_zero]
      try simp only [Act.put]
      try simp only [List.setIfInBounds_toArray]
      try simp only [List.set_cons_succ]
      try simp only [List.set_cons_zero]
      refine' wpAnyH_take (i := 6) (v := _) rfl (by kernel_rfl) (by kernel_rfl) (by kernel_rfl) (fun _ _ _ h => h) (yieldsIf_load_mid (by rfl) _ _ rfl (w.heap.size + 1) 0 rfl (row8 n) _ ?hS104 Try.underlying28 rfl sizeMb) hHeld ?rest104
      case hS104 => exact fun w h => ((a2.below h).whole)
      try simp only [List.getElem_toArray]
      try simp only [List.getElem_cons_succ]
      try simp only [List.getElem_cons_zero]
      try simp only [Act.put]
      try simp only [List.setIfInBounds_toArray]
      try simp only [List.set_cons_succ]
      try simp only [List.set_cons_zero]
      refine wpAnyH_take (i := 8) (v := ?v105) rfl (by kernel_rfl) (by kernel_rfl) (by kernel_rfl) (fun _ _ _ h => h) (Or.inl ⟨by rfl, ?hy105⟩) hHeld ?rest105
      case hy105 => (intro w hSw; clear hSw; go_simp; try with_reducible rfl)
      try simp only [List.getElem_toArray]
      try simp only [List.getElem_cons_succ]
      try simp only [List.getElem_cons_zero]
      try simp only [Act.put]
      try simp only [List.setIfInBounds_toArray]
      try simp only [List.set_cons_succ]
      try simp only [List.set_cons_zero]
      refine' wpAnyH_take (i := 9) (v := _) rfl (by kernel_rfl) (by kernel_rfl) (by kernel_rfl) (fun _ _ _ h => h) (yieldsIf_load_mid (by rfl) _ _ rfl (w.heap.size + 1 + 1) 0 rfl (row8 (bothTo m n 8)) _ ?hS106 Try.underlying28 rfl sizeMb) hHeld ?rest106
      case hS106 => exact fun w h => ((a3.below h).whole)
      try simp only [List.getElem_toArray]
      try simp only [List.getElem_cons_succ]
      try simp only [List.getElem_cons_zero]
      try simp only [Act.put]
      try simp only [List.setIfInBounds_toArray]
      try simp only [List.set_cons_succ]
      try simp only [List.set_cons_zero]
      refine wpAnyH_ready (rs := [5]) (by kernel_rfl) (by simp) ?_
      refine AllReadyH.cons rfl (fun K hK => ?_) (AllReadyH.nil)
      go_simp
      go_wp2_with (refine (pK10 _ (hL.below (below_next hB hHeld))).mono ?_; rintro r u2 ⟨⟨aP, cP, rfl, hP⟩, hb⟩)
      replace hP := hP.li.mono (Nat.zero_le _)
      refine hK.out _ _ (below_next hHeld hb) (fun hHeld => ?_)
      clear hK K hb
      refine wpAnyH_ready (rs := [7]) (by kernel_rfl) (by simp) ?_
      refine AllReadyH.cons rfl (fun K hK => ?_) (AllReadyH.nil)
      go_simp
      go_wp2_with (refine (pK2 aP cP _ hP).mono ?_; rintro r u3 ⟨⟨aQ, cQ, rfl, hQ⟩, hb⟩)
      replace hQ := hQ.li.mono (Nat.zero_le _)
      refine hK.out _ _ (below_next hHeld hb) (fun hHeld => ?_)
      clear hK K hb
      refine wpAnyH_ready (rs := [10]) (by kernel_rfl) (by simp) ?_
      refine AllReadyH.cons rfl (fun K hK => ?_) (AllReadyH.nil)
      go_simp
      go_wp2_with (refine (pK3 _ (hL.below (below_next hB hHeld))).mono ?_; rintro r u4 ⟨⟨aR, cR, rfl, hR⟩, hb⟩)
      replace hR := hR.li.mono (Nat.zero_le _)
      replace hQ := hQ.below hb
      refine hK.out _ _ (below_next hHeld hb) (fun hHeld => ?_)
      clear hK K hb
      refine wpAnyH_ready (rs := [11]) (by kernel_rfl) (by simp) ?_
      refine AllReadyH.cons rfl (fun K hK => ?_) (AllReadyH.nil)
      go_simp
      go_wp2_with (refine (pS1 aQ aR cQ cR _ hQ hR).mono ?_; rintro r u5 ⟨rfl, hb⟩)
      refine hK.out _ _ (below_next hHeld hb) (fun hHeld => ?_)
      clear hK K hb
      refine wpAnyH_take (i := 12) (v := ?v107) rfl (by kernel_rfl) (by kernel_rfl) (by kernel_rfl) (fun _ _ _ h => h) (Or.inl ⟨by rfl, ?hy107⟩) hHeld ?rest107
      case hy107 => (intro w hSw; clear hSw; go_simp; try with_reducible rfl)
      try simp only [List.getElem_toArray]
      try simp only [List.getElem_cons_succ]
      try simp only [List.getElem_cons_zero]
      try simp only [Act.put]
      try simp only [List.setIfInBounds_toArray]
      try simp only [List.set_cons_succ]
      try simp only [List.set_cons_zero]
      refine wpAnyH_take (i := 13) (v := ?v108) rfl (by kernel_rfl) (by kernel_rfl) (by kernel_rfl) (fun _ _ _ h => h) (Or.inl ⟨by rfl, ?hy108⟩) hHeld ?rest108
      case hy108 => (intro w hSw; clear hSw; go_simp; try with_reducible rfl)
      try simp only [List.getElem_toArray]
      try simp only [List.getElem_cons_succ]
      try simp only [List.getElem_cons_zero]
      try simp only [Act.put]
      try simp only [List.setIfInBounds_toArray]
      try simp only [List.set_cons_succ]
      try simp only [List.set_cons_zero]
      refine wpAnyH_done (by kernel_rfl) ?_ _
      replace a1 := a1.below hHeld
      replace a2 := a2.below hHeld
      replace a3 := a3.below hHeld
      replace hB := below_next hB hHeld
      clear hHeld
      clear a2 a3 hP hQ hR
      go_wp2_with fail
      go_loopw [9] (fun iv wr => ∃ j : Nat, j ≤ 8 ∧ iv = .int .i64 j ∧ Blk w.heap.size (mbc m) 28 wr ∧ Below w.heap.size w wr) (fun iv _ => 8 - (intOf iv).toNat)
      case atStart => exact ⟨0, by omega, rfl, a1, hB⟩
      case round =>
        clear a1 hB
        obtain ⟨j, hj, rfl, a1, hB⟩ := hrel
        rename World => wr
        by_cases hj8 : j < 8
        · have j0 : (j : Int) < 8 := by omega
          have pV1 := fun a c => gview_ok (j : Int) (keepM m L) a c (by omega)
          have pV2 := gview_ok (j : Int) L la lc (by omega)
          have pK4 := fun a c => gkeep_ok m (viewM (j : Int) L) a c (by have := hv1 (j : Int); omega)
          have pS2 := fun a b c d => rsameM_ok (viewM (j : Int) (keepM m L)) a b c d (by have := hv2 (j : Int); omega)
          rw [← view_keep] at pK4
          unfold MadeMr at pK1 pV1 pV2 pK4
          generalize viewM (j : Int) (keepM m L) = Q at pV1 pK4 pS2
          generalize viewM (j : Int) L = R at pV2 pK4
          generalize keepM m L = P at pK1 pV1
          generalize P.length = np at pK1 pV1
          generalize Q.length = nq at pV1 pK4 pS2
          generalize R.length = nr at pV2 pK4
          rw [hnl.out] at pK1 pV2
          go_upto_region 12 with fail
          try simp only [Act.put, List.setIfInBounds_toArray, List.set_cons_zero, List.set_cons_succ]
          refine wp_region_held_drew (S := fun v => Below wr.heap.size wr v) (by kernel_rfl) ((Below.refl _ _).drew) (fun hHeld => ?_)
          refine wpAnyH_take (i := 0) (v := ?v93) rfl (by kernel_rfl) (by kernel_rfl) (by kernel_rfl) (fun _ _ _ h => h) (Or.inl ⟨by rfl, ?hy93⟩) hHeld ?rest93
          case hy93 => (intro w hSw; clear hSw; go_simp; try with_reducible rfl)
          try simp only [List.getElem_toArray]
          try simp only [List.getElem_cons_succ]
          try simp only [List.getElem_cons_zero]
          try simp only [Act.put]
          try simp only [List.setIfInBounds_toArray]
          try simp only [List.set_cons_succ]
          try simp only [List.set_cons_zero]
          refine' wpAnyH_take (i := 1) (v := _) rfl (by kernel_rfl) (by kernel_rfl) (by kernel_rfl) (fun _ _ _ h => h) (yieldsIf_load_mid (by rfl) _ _ rfl w.heap.size 0 rfl (row8 m) _ ?hS94 Try.underlying28 rfl sizeMb) hHeld ?rest94
          case hS94 => exact fun w h => ((a1.below h).whole)
          try simp only [List.getElem_toArray]
          try simp only [List.getElem_cons_succ]
          try simp only [List.getElem_cons_zero]
          try simp only [Act.put]
          try simp only [List.setIfInBounds_toArray]
          try simp only [List.set_cons_succ]
          try simp only [List.set_cons_zero]
          refine wpAnyH_take (i := 3) (v := ?v95) rfl (by kernel_rfl) (by kernel_rfl) (by kernel_rfl) (fun _ _ _ h => h) (Or.inl ⟨by rfl, ?hy95⟩) hHeld ?rest95
          case hy95 => (intro w hSw; clear hSw; go_simp; try with_reducible rfl)
          try simp only [List.getElem_toArray]
          try simp only [List.getElem_cons_succ]
          try simp only [List.getElem_cons_zero]
          try simp only [Act.put]
          try simp only [List.setIfInBounds_toArray]
          try simp only [List.set_cons_succ]
          try simp only [List.set_cons_zero]
          refine wpAnyH_take (i := 5) (v := ?v96) rfl (by kernel_rfl) (by kernel_rfl) (by kernel_rfl) (fun _ _ _ h => h) (Or.inl ⟨by rfl, ?hy96⟩) hHeld ?rest96
          case hy96 => (intro w hSw; clear hSw; go_simp; try with_reducible rfl)
          try simp only [List.getElem_toArray]
          try simp only [List.getElem_cons_succ]
          try simp only [List.getElem_cons_zero]
          try simp only [Act.put]
          try simp only [List.setIfInBounds_toArray]
          try simp only [List.set_cons_succ]
          try simp only [List.set_cons_zero]
          refine wpAnyH_take (i := 6) (v := ?v97) rfl (by kernel_rfl) (by kernel_rfl) (by kernel_rfl) (fun _ _ _ h => h) (Or.inl ⟨by rfl, ?hy97⟩) hHeld ?rest97
          case hy97 => (intro w hSw; clear hSw; go_simp; try with_reducible rfl)
          try simp only [List.getElem_toArray]
          try simp only [List.getElem_cons_succ]
          try simp only [List.getElem_cons_zero]
          try simp only [Act.put]
          try simp only [List.setIfInBounds_toArray]
          try simp only [List.set_cons_succ]
          try simp only [List.set_cons_zero]
          refine' wpAnyH_take (i := 8) (v := _) rfl (by kernel_rfl) (by kernel_rfl) (by kernel_rfl) (fun _ _ _ h => h) (yieldsIf_load_mid (by rfl) _ _ rfl w.heap.size 0 rfl (row8 m) _ ?hS98 Try.underlying28 rfl sizeMb) hHeld ?rest98
          case hS98 => exact fun w h => ((a1.below h).whole)
          try simp only [List.getElem_toArray]
          try simp only [List.getElem_cons_succ]
          try simp only [List.getElem_cons_zero]
          try simp only [Act.put]
          try simp only [List.setIfInBounds_toArray]
          try simp only [List.set_cons_succ]
          try simp only [List.set_cons_zero]
          refine wpAnyH_ready (rs := [2]) (by kernel_rfl) (by simp) ?_
          refine AllReadyH.cons rfl (fun K hK => ?_) (AllReadyH.nil)
          go_simp
          go_wp2_with (refine (pK1 _ (hL.below (below_next hB hHeld))).mono ?_; rintro r u1 ⟨⟨aP, cP, rfl, hP⟩, hb⟩)
          replace hP := hP.li.mono (Nat.zero_le _)
          refine hK.out _ _ (below_next hHeld hb) (fun hHeld => ?_)
          clear hK K hb
          refine wpAnyH_ready (rs := [4]) (by kernel_rfl) (by simp) ?_
          refine AllReadyH.cons rfl (fun K hK => ?_) (AllReadyH.nil)
          go_simp
          go_wp2_with (refine (pV1 aP cP _ hP).mono ?_; rintro r u2 ⟨⟨aQ, cQ, rfl, hQ⟩, hb⟩)
          replace hQ := hQ.li.mono (Nat.zero_le _)
          refine hK.out _ _ (below_next hHeld hb) (fun hHeld => ?_)
          clear hK K hb
          refine wpAnyH_ready (rs := [7]) (by kernel_rfl) (by simp) ?_
          refine AllReadyH.cons rfl (fun K hK => ?_) (AllReadyH.nil)
          go_simp
          go_wp2_with (refine (pV2 _ (hL.below (below_next hB hHeld))).mono ?_; rintro r u3 ⟨⟨aR, cR, rfl, hR⟩, hb⟩)
          replace hR := hR.li.mono (Nat.zero_le _)
          replace hQ := hQ.below hb
          refine hK.out _ _ (below_next hHeld hb) (fun hHeld => ?_)
          clear hK K hb
          refine wpAnyH_ready (rs := [9]) (by kernel_rfl) (by simp) ?_
          refine AllReadyH.cons rfl (fun K hK => ?_) (AllReadyH.nil)
          go_simp
          go_wp2_with (refine (pK4 aR cR _ hR).mono ?_; rintro r u4 ⟨⟨aS, cS, rfl, hS⟩, hb⟩)
          replace hS := hS.li.mono (Nat.zero_le _)
          replace hQ := hQ.below hb
          refine hK.out _ _ (below_next hHeld hb) (fun hHeld => ?_)
          clear hK K hb
          refine wpAnyH_ready (rs := [10]) (by kernel_rfl) (by simp) ?_
          refine AllReadyH.cons rfl (fun K hK => ?_) (AllReadyH.nil)
          go_simp
          go_wp2_with (refine (pS2 aQ aS cQ cS _ hQ hS).mono ?_; rintro r u5 ⟨rfl, hb⟩)
          refine hK.out _ _ (below_next hHeld hb) (fun hHeld => ?_)
          clear hK K hb
          refine wpAnyH_take (i := 11) (v := ?v99) rfl (by kernel_rfl) (by kernel_rfl) (by kernel_rfl) (fun _ _ _ h => h) (Or.inl ⟨by rfl, ?hy99⟩) hHeld ?rest99
          case hy99 => (intro w hSw; clear hSw; go_simp; try with_reducible rfl)
          try simp only [List.getElem_toArray]
          try simp only [List.getElem_cons_succ]
          try simp only [List.getElem_cons_zero]
          try simp only [Act.put]
          try simp only [List.setIfInBounds_toArray]
          try simp only [List.set_cons_succ]
          try simp only [List.set_cons_zero]
          refine wpAnyH_done (by kernel_rfl) ?_ _
          replace a1 := a1.below hHeld
          replace hB := below_next hB hHeld
          clear hHeld
          go_wp2_with fail
          exact ⟨⟨j + 1, by omega, by go_num, a1, hB⟩, by simp [intOf]; omega⟩
        · obtain rfl : j = 8 := by omega
          clear a1
          go_wp2_with fail
          go_ret
          exact ⟨rfl, hB⟩

set_option maxRecDepth 100000 in
theorem lifted (os : Go.Os) (started : os.Started) (H : Type) (enc : TypeId × Value → H) :
    ReturnsInHanded {} Try.checked os 6 .any (Rows.groupKeepsSpec.pre6 enc Try.prog Try.f6 Rows.groupKeepsRow.domain false) (Rows.groupKeepsSpec.post enc Try.prog Try.f6 false true false false) := by
  refine returnsInHanded_of_change_sized (C := Try.checked) own started (by kernel_rfl) Try.func6
    (ChangeSpec.witness6 (enc := enc) (C := Try.checked) false ⟨#[], #[.slice none 0 0, .agg (mbc noMb), .agg (mbc noMb)], []⟩ 8 (by kernel_rfl) (by kernel_rfl) (by kernel_rfl) (by kernel_rfl)) ?_
  intro W base args ds gs before hval0 hW hcnd hsz0 _
  have hval : ∀ (j : Nat) t v, Try.f6.params[j]? = some t → args[j]? = some v → Value.okWide Try.prog W .any base t v := hval0
  have hsz : (DataW.weightsEach Try.prog (Try.f6.params.toList ++ Rows.groupKeepsSpec.plain.varTypes Try.prog) (ds ++ gs)).all (· ≤ reachBytes) = true := hsz0
  have hW' := hW
  obtain ⟨p, q, hA0, hV, rfl, hfz, hnd⟩ := hW
  have hA : DataW.TrodAll enc Try.prog W 0 (fun _ => true) true Try.f6.params.toList args.toList ds p := hA0
  rw [Try.params6] at hA hval hsz

  obtain ⟨v0, vs0, d0, ds0, p0, q0, hargs, rfl, rfl, h0, r0⟩ := trodAll_cons hA
  obtain ⟨v1, vs1, d1, ds1, p1, q1, rfl, rfl, rfl, h1, r1⟩ := trodAll_cons r0
  obtain ⟨v2, vs2, d2, ds2, p2, q2, rfl, rfl, rfl, h2, r2⟩ := trodAll_cons r1
  obtain ⟨rfl, rfl, rfl⟩ := trodAll_nil r2
  obtain rfl : args = #[v0, v1, v2] := by cases args; simp_all
  obtain ⟨rfl, rfl⟩ := trodVars_none hV
  obtain ⟨la0, L0, lc0, rfl, lz0, hc0, hm0, ls0, hS0⟩ := open_Mrs (okWide_slice Try.underlying22 (hval 0 22 v0 rfl rfl)) (fun n hn => of_decide_eq_true (List.all_eq_true.1 hsz _ (DataW.weights_mem_each (j := 0) rfl rfl n hn))) h0
  obtain ⟨m1, rfl⟩ := open_mb (by obtain ⟨cs, h1, _⟩ := (by simpa only [Value.okWide, Try.underlying28] using hval 1 28 v1 rfl rfl : ∃ cs, v1 = .agg cs ∧ _); exact ⟨cs, h1⟩) h1
  obtain ⟨m2, rfl⟩ := open_mb (by obtain ⟨cs, h1, _⟩ := (by simpa only [Value.okWide, Try.underlying28] using hval 2 28 v2 rfl rfl : ∃ cs, v2 = .agg cs ∧ _); exact ⟨cs, h1⟩) h2
  have hA2 := hA0
  clear hA0 hval0 hsz0
  simp only [List.append_nil] at hW'
  refine (walk la0 L0 lc0 lz0 hc0 hm0 ls0 m1 m2 W hS0).mono fun e W' ⟨he, bel⟩ => ?_
  subst he
  exact ⟨_, rfl, _, _, _, [], _, [], hW', trodAll_mk1 (shut_bool Try.underlying4 _), (stays_all laidOut bel (by kernel_rfl) hA2), rfl, bel.frame _, fun h => by cases h⟩

theorem over : Rows.groupKeepsRow.holds Try.pinned (OpenSpec.ofChange Rows.groupKeepsSpec) :=
  OpenClaim.holds_of_wide 6 Try.f6 rfl rfl rfl rfl rfl rfl rfl ⟨rfl, rfl, rfl, rfl, rfl⟩ rfl rfl rfl rfl rfl (by kernel_rfl) Try.func6 (by kernel_rfl)
    (of_decide_eq_true (by kernel_rfl)) (by unfold Func.isWrapper; first | (rw [if_pos (by decide +kernel)]; kernel_rfl) | (rw [if_neg (by decide +kernel)]; exact ⟨rfl, rfl⟩))
    (fun os started H enc _ => lifted os started H enc)

end Go.Proofs.Ythkomehnhadmlaa.groupKeeps
namespace Go.Proofs.Ythkomehnhadmlaa

theorem groupKeeps_holds : Rows.GroupKeepsSaid := groupKeeps.over
#print axioms groupKeeps_holds

end Go.Proofs.Ythkomehnhadmlaa
