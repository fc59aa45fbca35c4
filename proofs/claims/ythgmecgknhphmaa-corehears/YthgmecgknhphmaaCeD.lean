/-
  Up to which rounds frames are taken: what the call answers (core.most).
  Of a Self from 0 to 7.
-/
import Derived.Test.YthgmecgknhphmaaCeA
import Derived.Test.YthgmecgknhphmaaGaE
namespace Go.Proofs.Ythgmecgknhphmaa
set_option maxRecDepth 10000
set_option linter.unusedSimpArgs false
open Go.RowKit Go.Sort
set_option linter.unusedVariables false

def fillTo (o j : Nat) : Nat → Nat := fun i => if i < j then o else 0
theorem fill_zero (o : Nat) : mbc (fillTo o 0) = mbc noMb := rfl
theorem fill_full (o : Nat) : mbc (fillTo o 8) = mbc (fun _ => o) := rfl
theorem fill_set (o j : Nat) (h : j < 8) : (mbc (fillTo o j)).setIfInBounds j (.int .u32 (o : Int)) = mbc (fillTo o (j + 1)) := by
  rw [mbc_set _ j o h]
  refine mbc_ext fun i _ => ?_
  unfold fillTo
  by_cases e : i = j
  · subst e; simp
  · by_cases l : i < j
    · simp [e, l, show i < j + 1 by omega]
    · simp [e, l, show ¬ i < j + 1 by omega]

set_option maxHeartbeats 4000000 in
theorem most_ok (P : Nat) (c : Co) (v : Value) (s : Nat) (hs : s < 8) (hcs : c.self = (s : Int)) (w : World) (b0 : Blk P (unc c v) 78 w) :
    Calls Try.prog 84 #[.pointer (some ⟨P, 0, none⟩)] w fun e w' => e = .returned (.tuple #[.agg (mbc (mostC c)), .bool (mostB c)]) ∧ Below w.heap.size w w' := by
  have hP := b0.lt
  have a0 := blk_new w (mbc noMb) 29
  have hb := below_box w (.cells (mbc noMb) 29)
  have pg := gathers_ok c
  have pt := target_ok c
  have pa := all_ok c
  have po := own_ok c s hs hcs
  obtain ⟨g, hg⟩ : ∃ t, gathB c = t := ⟨_, rfl⟩
  obtain ⟨A, hA⟩ : ∃ t, allB c = t := ⟨_, rfl⟩
  obtain ⟨M, HM⟩ : ∃ M, Hid (mostC c = M) := ⟨_, rfl⟩
  obtain ⟨Q, HQ⟩ : ∃ M, Hid (mostB c = M) := ⟨_, rfl⟩
  rw [HM.out, HQ.out]
  rw [hg] at pg
  rw [hA] at pa
  go_enter Try.func84, Try.ntmps84
  go_upto_region 1 with (refine alloc_zero zeroCt rfl rfl ?_)
  try simp only [Act.put, List.setIfInBounds_toArray, List.set_cons_zero, List.set_cons_succ]
  try simp only [alloc_size]
  generalize w.alloc (Obj.cells (mbc noMb) 29) = W at a0 hb ⊢
  have bP := b0.below hb
  have hB := hb
  clear b0 hb
  go_wp2_with (refine load_part rfl 35 _ rfl (o := 0) bP rfl (col c) (unc_core _ _) Try.underlying35 rfl sizeCo ?_)
  refine (pg _).mono ?_
  rintro r w1 ⟨rfl, hb⟩
  replace a0 := a0.below hb
  replace bP := bP.below hb
  replace hB := hB.trans (hb.mono hB.size)
  clear hb pg
  cases g with
  | true =>
    obtain rfl : M = targC c := by rw [← HM.out, mostC, hg]; rfl
    have e2 : Q = (!c.rdy && A) := by rw [← HQ.out, mostB, hg, hA]; rfl
    clear HM HQ hg hA po
    go_upto_region 2 with fail
    have hC0 := hB.drew
    have x0 := a0.drew
    clear hB a0
    obtain ⟨rr, hr⟩ : ∃ t, c.rdy = t := ⟨_, rfl⟩
    rw [hr] at e2
    cases rr with
    | true =>
      obtain rfl : Q = false := by rw [e2]; rfl
      clear pa e2
      refine wp_region_held_drew (S := fun w' => Blk P (unc c v) 78 w') (by kernel_rfl) bP.drew (fun hHeld => ?_)
      refine tkH 0 (v := ?v1) rfl (by kernel_rfl) (fun _ _ _ h => h) (Or.inl ⟨by rfl, ?hy1⟩) hHeld ?rest1
      case hy1 => (intro w hSw; clear hSw; go_simp; try with_reducible rfl)
      try simp only [List.getElem_toArray, List.getElem_cons_succ, List.getElem_cons_zero, Act.put, List.setIfInBounds_toArray, List.set_cons_succ, List.set_cons_zero]
      refine tkH 1 (v := ?v2) rfl (by kernel_rfl) (fun _ _ _ h => h) (Or.inl ⟨by rfl, ?hy2⟩) hHeld ?rest2
      case hy2 => (intro w hSw; clear hSw; go_simp; try with_reducible rfl)
      try simp only [List.getElem_toArray, List.getElem_cons_succ, List.getElem_cons_zero, Act.put, List.setIfInBounds_toArray, List.set_cons_succ, List.set_cons_zero]
      refine tkH 2 (v := ?v3) rfl (by kernel_rfl) (fun _ _ _ h => h) (Or.inl ⟨by rfl, ?hy3⟩) hHeld ?rest3
      case hy3 => (intro w hSw; clear hSw; go_simp; try with_reducible rfl)
      try simp only [List.getElem_toArray, List.getElem_cons_succ, List.getElem_cons_zero, Act.put, List.setIfInBounds_toArray, List.set_cons_succ, List.set_cons_zero]
      refine' tkH 3 (v := _) rfl (by kernel_rfl) (fun _ _ _ h => h) (yieldsIf_load_mid (by rfl) _ _ rfl P 0 rfl (col c) _ ?hS4 Try.underlying35 rfl sizeCo) hHeld ?rest4
      case hS4 => exact fun w h => h.range 0 _ (unc_core _ _)
      try simp only [List.getElem_toArray, List.getElem_cons_succ, List.getElem_cons_zero, Act.put, List.setIfInBounds_toArray, List.set_cons_succ, List.set_cons_zero]
      refine tkH 5 (v := ?v5) rfl (by kernel_rfl) (fun _ _ _ h => h) (Or.inl ⟨by rfl, ?hy5⟩) hHeld ?rest5
      case hy5 => (intro w hSw; clear hSw; go_simp; try with_reducible rfl)
      try simp only [List.getElem_toArray, List.getElem_cons_succ, List.getElem_cons_zero, Act.put, List.setIfInBounds_toArray, List.set_cons_succ, List.set_cons_zero]
      refine tkH 6 (v := ?v6) rfl (by kernel_rfl) (fun _ _ _ h => h) (Or.inl ⟨by rfl, ?hy6⟩) hHeld ?rest6
      case hy6 => (intro w hSw; clear hSw; go_simp; try with_reducible rfl)
      try simp only [List.getElem_toArray, List.getElem_cons_succ, List.getElem_cons_zero, Act.put, List.setIfInBounds_toArray, List.set_cons_succ, List.set_cons_zero]
      refine tkH 7 (v := ?v7) rfl (by kernel_rfl) (fun _ _ _ h => h) (Or.inl ⟨by rfl, ?hy7⟩) hHeld ?rest7
      case hy7 => (intro w hSw; clear hSw; go_simp; try with_reducible rfl)
      try simp only [List.getElem_toArray, List.getElem_cons_succ, List.getElem_cons_zero, Act.put, List.setIfInBounds_toArray, List.set_cons_succ, List.set_cons_zero]
      refine tkH 8 (v := ?v8) rfl (by kernel_rfl) (fun _ _ _ h => h) (Or.inl ⟨by rfl, ?hy8⟩) hHeld ?rest8
      case hy8 => (intro w hSw; clear hSw; go_simp; try with_reducible rfl)
      try simp only [List.getElem_toArray, List.getElem_cons_succ, List.getElem_cons_zero, Act.put, List.setIfInBounds_toArray, List.set_cons_succ, List.set_cons_zero]
      refine tkH 9 (v := ?v9) rfl (by kernel_rfl) (fun _ _ _ h => h) (Or.inl ⟨by rfl, ?hy9⟩) hHeld ?rest9
      case hy9 => (intro w hSw; have hc : w.cell? ⟨P, 59, none⟩ = some (.bool true) := (hSw.cell 59 (.bool c.rdy) rfl).trans (by rw [hr]); clear hSw; go_simp; try with_reducible rfl)
      try simp only [List.getElem_toArray, List.getElem_cons_succ, List.getElem_cons_zero, Act.put, List.setIfInBounds_toArray, List.set_cons_succ, List.set_cons_zero]
      refine tkH 10 (v := ?v10) rfl (by kernel_rfl) (fun _ _ _ h => h) (Or.inl ⟨by rfl, ?hy10⟩) hHeld ?rest10
      case hy10 => (intro w hSw; clear hSw; go_simp; try with_reducible rfl)
      try simp only [List.getElem_toArray, List.getElem_cons_succ, List.getElem_cons_zero, Act.put, List.setIfInBounds_toArray, List.set_cons_succ, List.set_cons_zero]
      refine wpAnyH_ready (rs := [4]) (by kernel_rfl) (by simp) ?_
      refine AllReadyH.cons rfl (fun K hK => ?_) (AllReadyH.nil)
      go_simp
      go_wp2_with (refine (pt _).mono ?_; rintro r u1 ⟨rfl, hb⟩)
      have hC1 := hC0.trans (hb.mono hC0.size)
      have x1 := x0.below hb
      refine hK.out _ _ (hHeld.below hb) (fun hHeld => ?_)
      clear hK K hb hC0 x0
      refine tkH 11 (v := ?v11) rfl (by kernel_rfl) (fun _ _ _ h => h) (Or.inl ⟨by rfl, ?hy11⟩) hHeld ?rest11
      case hy11 => (intro w hSw; clear hSw; go_simp; try with_reducible rfl)
      try simp only [List.getElem_toArray, List.getElem_cons_succ, List.getElem_cons_zero, Act.put, List.setIfInBounds_toArray, List.set_cons_succ, List.set_cons_zero]
      refine tkH 12 (v := undef) rfl (by kernel_rfl) (fun _ _ _ h => h) (Or.inr ⟨by rfl, rfl⟩) hHeld ?rest12
      try simp only [List.getElem_toArray, List.getElem_cons_succ, List.getElem_cons_zero, Act.put, List.setIfInBounds_toArray, List.set_cons_succ, List.set_cons_zero]
      refine tkH 13 (v := undef) rfl (by kernel_rfl) (fun _ _ _ h => h) (Or.inr ⟨by rfl, rfl⟩) hHeld ?rest13
      try simp only [List.getElem_toArray, List.getElem_cons_succ, List.getElem_cons_zero, Act.put, List.setIfInBounds_toArray, List.set_cons_succ, List.set_cons_zero]
      refine tkH 14 (v := undef) rfl (by kernel_rfl) (fun _ _ _ h => h) (Or.inr ⟨by rfl, rfl⟩) hHeld ?rest14
      try simp only [List.getElem_toArray, List.getElem_cons_succ, List.getElem_cons_zero, Act.put, List.setIfInBounds_toArray, List.set_cons_succ, List.set_cons_zero]
      refine tkH 15 (v := undef) rfl (by kernel_rfl) (fun _ _ _ h => h) (Or.inr ⟨by rfl, rfl⟩) hHeld ?rest15
      try simp only [List.getElem_toArray, List.getElem_cons_succ, List.getElem_cons_zero, Act.put, List.setIfInBounds_toArray, List.set_cons_succ, List.set_cons_zero]
      refine tkH 16 (v := undef) rfl (by kernel_rfl) (fun _ _ _ h => h) (Or.inr ⟨by rfl, rfl⟩) hHeld ?rest16
      try simp only [List.getElem_toArray, List.getElem_cons_succ, List.getElem_cons_zero, Act.put, List.setIfInBounds_toArray, List.set_cons_succ, List.set_cons_zero]
      refine tkH 17 (v := ?v17) rfl (by kernel_rfl) (fun _ _ _ h => h) (Or.inl ⟨by rfl, ?hy17⟩) hHeld ?rest17
      case hy17 => (intro w hSw; clear hSw; go_simp; try with_reducible rfl)
      try simp only [List.getElem_toArray, List.getElem_cons_succ, List.getElem_cons_zero, Act.put, List.setIfInBounds_toArray, List.set_cons_succ, List.set_cons_zero]
      refine wpAnyH_ready (rs := [18]) (by kernel_rfl) (by simp) ?_
      refine AllReadyH.cons rfl (fun K hK => ?_) (AllReadyH.nil)
      rw [if_pos (by rfl)]
      refine wp_store_all 29 _ _ rfl (cells := (mbc (targC c))) x1 rfl rfl sizeCt rfl (mbc_one _) ?_
      intro u2 hn hk
      have hC2 := hC1.trans (hk.below (by simp <;> omega) hC1.size)
      have x2 := hn
      refine hK.out _ _ (hHeld.kp hk (by simp <;> omega)) (fun hHeld => ?_)
      clear hK K hk hn hC1 x1
      try simp only [List.getElem_toArray, List.getElem_cons_succ, List.getElem_cons_zero, Act.put, List.setIfInBounds_toArray, List.set_cons_succ, List.set_cons_zero]
      refine tkH 19 (v := ?v18) rfl (by kernel_rfl) (fun _ _ _ h => h) (Or.inl ⟨by rfl, ?hy18⟩) hHeld ?rest18
      case hy18 => (intro w hSw; clear hSw; go_simp; try with_reducible rfl)
      try simp only [List.getElem_toArray, List.getElem_cons_succ, List.getElem_cons_zero, Act.put, List.setIfInBounds_toArray, List.set_cons_succ, List.set_cons_zero]
      refine wpAnyH_done (by kernel_rfl) ?_ _
      go_wp2_with fail
      exact bodyPost_ret (w := _) (v := .tuple #[.agg (mbc (targC c)), .bool false]) (ret_two rfl rfl x2 Try.underlying29 rfl sizeCt rfl) rfl ⟨rfl, hC2⟩
    | false =>
      obtain rfl : Q = A := by rw [e2]; rfl
      clear e2
      refine wp_region_held_drew (S := fun w' => Blk P (unc c v) 78 w') (by kernel_rfl) bP.drew (fun hHeld => ?_)
      refine tkH 0 (v := ?v19) rfl (by kernel_rfl) (fun _ _ _ h => h) (Or.inl ⟨by rfl, ?hy19⟩) hHeld ?rest19
      case hy19 => (intro w hSw; clear hSw; go_simp; try with_reducible rfl)
      try simp only [List.getElem_toArray, List.getElem_cons_succ, List.getElem_cons_zero, Act.put, List.setIfInBounds_toArray, List.set_cons_succ, List.set_cons_zero]
      refine tkH 1 (v := ?v20) rfl (by kernel_rfl) (fun _ _ _ h => h) (Or.inl ⟨by rfl, ?hy20⟩) hHeld ?rest20
      case hy20 => (intro w hSw; clear hSw; go_simp; try with_reducible rfl)
      try simp only [List.getElem_toArray, List.getElem_cons_succ, List.getElem_cons_zero, Act.put, List.setIfInBounds_toArray, List.set_cons_succ, List.set_cons_zero]
      refine tkH 2 (v := ?v21) rfl (by kernel_rfl) (fun _ _ _ h => h) (Or.inl ⟨by rfl, ?hy21⟩) hHeld ?rest21
      case hy21 => (intro w hSw; clear hSw; go_simp; try with_reducible rfl)
      try simp only [List.getElem_toArray, List.getElem_cons_succ, List.getElem_cons_zero, Act.put, List.setIfInBounds_toArray, List.set_cons_succ, List.set_cons_zero]
      refine' tkH 3 (v := _) rfl (by kernel_rfl) (fun _ _ _ h => h) (yieldsIf_load_mid (by rfl) _ _ rfl P 0 rfl (col c) _ ?hS22 Try.underlying35 rfl sizeCo) hHeld ?rest22
      case hS22 => exact fun w h => h.range 0 _ (unc_core _ _)
      try simp only [List.getElem_toArray, List.getElem_cons_succ, List.getElem_cons_zero, Act.put, List.setIfInBounds_toArray, List.set_cons_succ, List.set_cons_zero]
      refine tkH 5 (v := ?v23) rfl (by kernel_rfl) (fun _ _ _ h => h) (Or.inl ⟨by rfl, ?hy23⟩) hHeld ?rest23
      case hy23 => (intro w hSw; clear hSw; go_simp; try with_reducible rfl)
      try simp only [List.getElem_toArray, List.getElem_cons_succ, List.getElem_cons_zero, Act.put, List.setIfInBounds_toArray, List.set_cons_succ, List.set_cons_zero]
      refine tkH 6 (v := ?v24) rfl (by kernel_rfl) (fun _ _ _ h => h) (Or.inl ⟨by rfl, ?hy24⟩) hHeld ?rest24
      case hy24 => (intro w hSw; clear hSw; go_simp; try with_reducible rfl)
      try simp only [List.getElem_toArray, List.getElem_cons_succ, List.getElem_cons_zero, Act.put, List.setIfInBounds_toArray, List.set_cons_succ, List.set_cons_zero]
      refine tkH 7 (v := ?v25) rfl (by kernel_rfl) (fun _ _ _ h => h) (Or.inl ⟨by rfl, ?hy25⟩) hHeld ?rest25
      case hy25 => (intro w hSw; clear hSw; go_simp; try with_reducible rfl)
      try simp only [List.getElem_toArray, List.getElem_cons_succ, List.getElem_cons_zero, Act.put, List.setIfInBounds_toArray, List.set_cons_succ, List.set_cons_zero]
      refine tkH 8 (v := ?v26) rfl (by kernel_rfl) (fun _ _ _ h => h) (Or.inl ⟨by rfl, ?hy26⟩) hHeld ?rest26
      case hy26 => (intro w hSw; clear hSw; go_simp; try with_reducible rfl)
      try simp only [List.getElem_toArray, List.getElem_cons_succ, List.getElem_cons_zero, Act.put, List.setIfInBounds_toArray, List.set_cons_succ, List.set_cons_zero]
      refine tkH 9 (v := ?v27) rfl (by kernel_rfl) (fun _ _ _ h => h) (Or.inl ⟨by rfl, ?hy27⟩) hHeld ?rest27
      case hy27 => (intro w hSw; have hc : w.cell? ⟨P, 59, none⟩ = some (.bool false) := (hSw.cell 59 (.bool c.rdy) rfl).trans (by rw [hr]); clear hSw; go_simp; try with_reducible rfl)
      try simp only [List.getElem_toArray, List.getElem_cons_succ, List.getElem_cons_zero, Act.put, List.setIfInBounds_toArray, List.set_cons_succ, List.set_cons_zero]
      refine tkH 10 (v := ?v28) rfl (by kernel_rfl) (fun _ _ _ h => h) (Or.inl ⟨by rfl, ?hy28⟩) hHeld ?rest28
      case hy28 => (intro w hSw; clear hSw; go_simp; try with_reducible rfl)
      try simp only [List.getElem_toArray, List.getElem_cons_succ, List.getElem_cons_zero, Act.put, List.setIfInBounds_toArray, List.set_cons_succ, List.set_cons_zero]
      refine wpAnyH_ready (rs := [4]) (by kernel_rfl) (by simp) ?_
      refine AllReadyH.cons rfl (fun K hK => ?_) (AllReadyH.nil)
      go_simp
      go_wp2_with (refine (pt _).mono ?_; rintro r u1 ⟨rfl, hb⟩)
      have hC1 := hC0.trans (hb.mono hC0.size)
      have x1 := x0.below hb
      refine hK.out _ _ (hHeld.below hb) (fun hHeld => ?_)
      clear hK K hb hC0 x0
      refine tkH 11 (v := ?v29) rfl (by kernel_rfl) (fun _ _ _ h => h) (Or.inl ⟨by rfl, ?hy29⟩) hHeld ?rest29
      case hy29 => (intro w hSw; clear hSw; go_simp; try with_reducible rfl)
      try simp only [List.getElem_toArray, List.getElem_cons_succ, List.getElem_cons_zero, Act.put, List.setIfInBounds_toArray, List.set_cons_succ, List.set_cons_zero]
      refine tkH 12 (v := ?v30) rfl (by kernel_rfl) (fun _ _ _ h => h) (Or.inl ⟨by rfl, ?hy30⟩) hHeld ?rest30
      case hy30 => (intro w hSw; clear hSw; go_simp; try with_reducible rfl)
      try simp only [List.getElem_toArray, List.getElem_cons_succ, List.getElem_cons_zero, Act.put, List.setIfInBounds_toArray, List.set_cons_succ, List.set_cons_zero]
      refine tkH 13 (v := ?v31) rfl (by kernel_rfl) (fun _ _ _ h => h) (Or.inl ⟨by rfl, ?hy31⟩) hHeld ?rest31
      case hy31 => (intro w hSw; clear hSw; go_simp; try with_reducible rfl)
      try simp only [List.getElem_toArray, List.getElem_cons_succ, List.getElem_cons_zero, Act.put, List.setIfInBounds_toArray, List.set_cons_succ, List.set_cons_zero]
      refine tkH 14 (v := ?v32) rfl (by kernel_rfl) (fun _ _ _ h => h) (Or.inl ⟨by rfl, ?hy32⟩) hHeld ?rest32
      case hy32 => (intro w hSw; clear hSw; go_simp; try with_reducible rfl)
      try simp only [List.getElem_toArray, List.getElem_cons_succ, List.getElem_cons_zero, Act.put, List.setIfInBounds_toArray, List.set_cons_succ, List.set_cons_zero]
      refine' tkH 15 (v := _) rfl (by kernel_rfl) (fun _ _ _ h => h) (yieldsIf_load_mid (by rfl) _ _ rfl P 0 rfl (col c) _ ?hS33 Try.underlying35 rfl sizeCo) hHeld ?rest33
      case hS33 => exact fun w h => h.range 0 _ (unc_core _ _)
      try simp only [List.getElem_toArray, List.getElem_cons_succ, List.getElem_cons_zero, Act.put, List.setIfInBounds_toArray, List.set_cons_succ, List.set_cons_zero]
      refine wpAnyH_ready (rs := [16]) (by kernel_rfl) (by simp) ?_
      refine AllReadyH.cons rfl (fun K hK => ?_) (AllReadyH.nil)
      go_simp
      go_wp2_with (refine (pa _).mono ?_; rintro r u2 ⟨rfl, hb⟩)
      have hC2 := hC1.trans (hb.mono hC1.size)
      have x2 := x1.below hb
      refine hK.out _ _ (hHeld.below hb) (fun hHeld => ?_)
      clear hK K hb hC1 x1
      refine tkH 17 (v := ?v34) rfl (by kernel_rfl) (fun _ _ _ h => h) (Or.inl ⟨by rfl, ?hy34⟩) hHeld ?rest34
      case hy34 => (intro w hSw; clear hSw; go_simp; try with_reducible rfl)
      try simp only [List.getElem_toArray, List.getElem_cons_succ, List.getElem_cons_zero, Act.put, List.setIfInBounds_toArray, List.set_cons_succ, List.set_cons_zero]
      refine wpAnyH_ready (rs := [18]) (by kernel_rfl) (by simp) ?_
      refine AllReadyH.cons rfl (fun K hK => ?_) (AllReadyH.nil)
      rw [if_pos (by rfl)]
      refine wp_store_all 29 _ _ rfl (cells := (mbc (targC c))) x2 rfl rfl sizeCt rfl (mbc_one _) ?_
      intro u3 hn hk
      have hC3 := hC2.trans (hk.below (by simp <;> omega) hC2.size)
      have x3 := hn
      refine hK.out _ _ (hHeld.kp hk (by simp <;> omega)) (fun hHeld => ?_)
      clear hK K hk hn hC2 x2
      try simp only [List.getElem_toArray, List.getElem_cons_succ, List.getElem_cons_zero, Act.put, List.setIfInBounds_toArray, List.set_cons_succ, List.set_cons_zero]
      refine tkH 19 (v := ?v35) rfl (by kernel_rfl) (fun _ _ _ h => h) (Or.inl ⟨by rfl, ?hy35⟩) hHeld ?rest35
      case hy35 => (intro w hSw; clear hSw; go_simp; try with_reducible rfl)
      try simp only [List.getElem_toArray, List.getElem_cons_succ, List.getElem_cons_zero, Act.put, List.setIfInBounds_toArray, List.set_cons_succ, List.set_cons_zero]
      refine wpAnyH_done (by kernel_rfl) ?_ _
      go_wp2_with fail
      exact bodyPost_ret (w := _) (v := .tuple #[.agg (mbc (targC c)), .bool Q]) (ret_two rfl rfl x3 Try.underlying29 rfl sizeCt rfl) rfl ⟨rfl, hC3⟩
  | false =>
    obtain rfl : M = fun _ => ownN c := by rw [← HM.out, mostC, hg]; rfl
    obtain rfl : Q = true := by rw [← HQ.out, mostB, hg]; rfl
    clear HM HQ hg hA pa pt
    have hb := below_box w1 (.cells (mbc noMb) 29)
    have a1 := blk_new w1 (mbc noMb) 29
    go_upto_region 5 with (refine alloc_zero zeroCt rfl rfl ?_)
    try simp only [Act.put, List.setIfInBounds_toArray, List.set_cons_zero, List.set_cons_succ]
    generalize w1.alloc (Obj.cells (mbc noMb) 29) = W2 at a1 hb ⊢
    have hq := a0.lt
    replace a0 := a0.below hb
    replace bP := bP.below hb
    replace hB := hB.trans (hb.mono hB.size)
    clear hb 
    rw [← fill_zero (ownN c)] at a1
    generalize w1.heap.size = q at a1 hq ⊢
    go_loopw [29] (fun iv wr => ∃ j : Nat, j ≤ 8 ∧ iv = .int .i64 j ∧ Blk P (unc c v) 78 wr ∧ Blk w.heap.size (mbc noMb) 29 wr ∧ Blk q (mbc (fillTo (ownN c) j)) 29 wr ∧ Below w.heap.size w wr) (fun iv _ => 8 - (intOf iv).toNat)
    case atStart => exact ⟨0, by omega, rfl, bP, a0, a1, hB⟩
    case round =>
      clear bP a0 a1 hB
      obtain ⟨j, hj, rfl, bP, a0, a1, hB⟩ := hrel
      by_cases hjn : j < 8
      · have j0 : (j : Int) < 8 := by omega
        have j1 : (0 : Int) ≤ (j : Int) := by omega
        go_wp2_with (refine load_part rfl 35 _ rfl (o := 0) bP rfl (col c) (unc_core _ _) Try.underlying35 rfl sizeCo ?_)
        refine (po _).mono ?_
        rintro r w3 ⟨rfl, hb⟩
        replace a0 := a0.below hb
        replace bP := bP.below hb
        replace a1 := a1.below hb
        replace hB := hB.trans (hb.mono hB.size)
        clear hb 
        go_wp2_with (refine store_one rfl 22 _ _ rfl (off := j) (.int .u32 (ownN c : Int)) a1 rfl rfl rfl rfl sizeU32 (by rw [mbc_size]; omega) ?_; intro w5 b5 k5; rw [fill_set _ j hjn] at b5; replace a0 := a0.kp1 k5 (by omega); replace bP := bP.kp1 k5 (by omega); replace hB : Below w.heap.size w w5 := hB.trans (k5.below1 (by omega) hB.size))
        exact ⟨⟨j + 1, by omega, by go_num, bP, a0, b5, hB⟩, by simp [intOf]; omega⟩
      · obtain rfl : j = 8 := by omega
        rw [fill_full] at a1
        go_wp2_with (first | refine load_blk rfl 29 _ rfl a1 rfl Try.underlying29 rfl sizeCt ?_ | (refine store_part rfl 29 _ _ rfl (off := 0) (cells := mbc (fun _ => ownN c)) a0 rfl rfl sizeCt (Nat.le_refl _) (mbc_one _) ?_; intro w9 b9 k9; rw [mb_all] at b9; have hB9 : Below w.heap.size w w9 := hB.trans (k9.below1 (by omega) hB.size)))
        exact bodyPost_ret (w := w9) (v := .tuple #[.agg (mbc (fun _ => ownN c)), .bool true]) (ret_two rfl rfl b9 Try.underlying29 rfl sizeCt rfl) rfl ⟨rfl, hB9⟩

end Go.Proofs.Ythgmecgknhphmaa
