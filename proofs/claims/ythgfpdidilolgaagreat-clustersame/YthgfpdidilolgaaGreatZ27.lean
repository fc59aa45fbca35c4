/-
  Of the texts beneath these laws, in their order: CeF.
  Each theorem says its own conditions.
-/
import Derived.Test.YthgfpdidilolgaaGreatZ18
import Derived.Test.YthgfpdidilolgaaGreatZ04
import Derived.Test.YthgfpdidilolgaaGreatZ26
namespace Go.Proofs.YthgfpdidilolgaaGreat
set_option maxRecDepth 10000
set_option linter.unusedSimpArgs false
open Go.RowKit Go.Sort
set_option linter.unusedVariables false
set_option maxHeartbeats 8000000 in
theorem send_ok (B P : Nat) (s0 : Sg) (f : Nat → En) (s : Nat) (hs : s < 8) (hcs : s0.c.self = (s : Int)) (hc : ∀ i, s0.c.count i < 4294967296) (hl : (s0.L.length + 1) * 352 ≤ 140737488355328) (ht : (s0.t.length + 1) * 408 ≤ 140737488355328) (hBP : B ≤ P) (w : World) (hU : Uv 166 B P s0 w) :
  Calls Tryz.prog 103 #[.pointer (some ⟨P, 0, none⟩), .agg (frc f)] w fun e w' => e = .returned (.bool (sendB s0.c)) ∧ Uv 166 B P (sendS s0 f) w' ∧ Below P w w' := by
 obtain ⟨c0, L, Hs⟩ := s0
 obtain ⟨c, ta, tk, hn, hsim, b0, hL, hG, hO, hO2⟩ := hU.open
 have hU0 := hU
 clear hU
 have hn : c.kn = L.length := hn
 have b0 : Blk P (unc c (.slice ta Hs.length tk)) 166 w := b0
 have hL : Li Kt.vals B c.ka L w := hL
 have hG : Lg Hp.vals 50 57 (P + 1) ta tk Hs w := hG
 have hO : Off c.ka L P := hO
 have hO2 : ∀ g ∈ blkOf ta, Off c.ka L g := hO2
 have hl : (L.length + 1) * 352 ≤ 140737488355328 := hl
 have ht : (Hs.length + 1) * 408 ≤ 140737488355328 := ht
 have hP := b0.lt
 have hin := hG.in
 obtain ⟨a9, n9, k9, hcc⟩ := eq_kp hsim
 have hcs : c.self = (s : Int) := by rw [hcc]; exact hcs
 have hc : ∀ i, c.count i < 4294967296 := by rw [hcc]; exact hc
 have HS := send_sim hsim L Hs f
 have eB : sendB (Sg.mk c0 L Hs).c = sendB c := HS.2.symm
 rw [eB]
 have fin_no : ∀ u, Below w.heap.size w u → sendB c = false → Uv 166 B P (sendS ⟨c0, L, Hs⟩ f) u ∧ Below P w u := by
  intro u hb hi
  refine ⟨?_, hb.mono (by omega)⟩
  have e : sendS ⟨c0, L, Hs⟩ f = ⟨c0, L, Hs⟩ := by rw [sendS, eB, hi]; rfl
  rw [e]
  exact hU0.below hb
 have pg := gathers_ok c
 have pm := may_ok c.count c.mem c.self
 rw [hcs] at pm
 have po := own_ok c s hs hcs
 have eo : ownN c = c.count s := by rw [ownN, hcs, Int.toNat_natCast]
 obtain ⟨o, ho⟩ : ∃ o, ownN c = o := ⟨_, rfl⟩
 have holt : o < 4294967296 := by rw [← ho, eo]; exact hc s
 obtain ⟨g, hg⟩ : ∃ t, gathB c = t := ⟨_, rfl⟩
 obtain ⟨M, hM⟩ : ∃ t, mayB c.count c.mem (s : Int) = t := ⟨_, rfl⟩
 obtain ⟨Z, hZ⟩ : ∃ t, decide (o = 4294967295) = t := ⟨_, rfl⟩
 obtain ⟨R, HR⟩ : ∃ R, Hid (sendB c = R) := ⟨_, rfl⟩
 have hR : R = (!g && M && !Z) := by rw [← HR.out, sendB, hg, hcs, hM, ho, hZ]
 have kZ : ((o : Int) == 4294967295) = Z := by rw [← hZ, Bool.eq_iff_iff, beq_iff_eq, decide_eq_true_iff]; omega
 rw [hg] at pg
 rw [hM] at pm
 rw [ho] at po
 rw [HR.out]
 clear eB hU0 hsim hcc hg
 have a0 := blk_new w (frc f) 43
 have hb := below_box w (.cells (frc f) 43)
 go_enter Tryz.func103, Tryz.ntmps103
 go_upto_region 1 with fail
 generalize w.alloc (Obj.cells (frc f) 43) = W at a0 hb ⊢
 have bP := b0.below hb
 have hB := hb
 clear b0 hb
 go_wp2_with (refine load_part rfl 78 _ rfl (o := 0) bP rfl (col c) (unc_core _ _) Tryz.underlying78 rfl sizeCo ?_)
 refine (po _).mono ?_
 rintro r w1 ⟨rfl, hb⟩
 replace a0 := a0.below hb
 replace bP := bP.below hb
 replace hB := hB.trans (hb.mono hB.size)
 clear hb po
 go_upto_region 2 with fail
 have hC0 : Below w1.heap.size w1 w1.drew := (Below.refl _ _).drew
 go_cut [39] from 12 to 38 (fun v wx => v = .bool (!R) ∧ Blk P (unc c (.slice ta Hs.length tk)) 166 wx ∧ Below w1.heap.size w1 wx)
 case first =>
  clear fin_no
  cases g with
  | true =>
   obtain rfl : R = false := by rw [hR]; rfl
   clear hR HR pm kZ
   refine wp_region_held_drew (S := fun w' => Blk P (unc c (.slice ta Hs.length tk)) 166 w') (by kernel_rfl) bP.drew (fun hHeld => ?_)
   refine tkH 0 (v := ?v1) rfl (by kernel_rfl) (fun _ _ _ h => h) (Or.inl ⟨by rfl, ?hy1⟩) hHeld ?_
   case hy1 => (intro w hSw; clear hSw; go_simp; try with_reducible rfl)
   try simp only [yA, yB, yC, Act.put, yD, yE, yF]
   refine tkH 1 (v := ?v2) rfl (by kernel_rfl) (fun _ _ _ h => h) (Or.inl ⟨by rfl, ?hy2⟩) hHeld ?_
   case hy2 => (intro w hSw; clear hSw; go_simp; try with_reducible rfl)
   try simp only [yA, yB, yC, Act.put, yD, yE, yF]
   refine tkH 2 (v := ?v3) rfl (by kernel_rfl) (fun _ _ _ h => h) (Or.inl ⟨by rfl, ?hy3⟩) hHeld ?_
   case hy3 => (intro w hSw; clear hSw; go_simp; try with_reducible rfl)
   try simp only [yA, yB, yC, Act.put, yD, yE, yF]
   refine' tkH 3 (v := _) rfl (by kernel_rfl) (fun _ _ _ h => h) (yieldsIf_load_mid (by rfl) _ _ rfl P 0 rfl (col c) _ ?hS4 Tryz.underlying78 rfl sizeCo) hHeld ?_
   case hS4 => exact fun w h => h.range 0 _ (unc_core _ _)
   try simp only [yA, yB, yC, Act.put, yD, yE, yF]
   refine wpAnyH_ready (rs := [4]) (by kernel_rfl) (by simp) ?_
   refine AllReadyH.cons rfl (fun K hK => ?_) (AllReadyH.nil)
   go_simp
   go_wp2_with (refine (pg _).mono ?_; rintro r u1 ⟨rfl, hb⟩)
   have hC1 := hC0.trans (hb.mono hC0.size)
   refine hK.out _ _ (hHeld.below hb) (fun hHeld => ?_)
   clear hK K hb hC0
   refine tkH 5 (v := ?v5) rfl (by kernel_rfl) (fun _ _ _ h => h) (Or.inl ⟨by rfl, ?hy5⟩) hHeld ?_
   case hy5 => (intro w hSw; clear hSw; go_simp; try with_reducible rfl)
   try simp only [yA, yB, yC, Act.put, yD, yE, yF]
   refine tkH 6 (v := undef) rfl (by kernel_rfl) (fun _ _ _ h => h) (Or.inr ⟨by rfl, rfl⟩) hHeld ?_
   try simp only [yA, yB, yC, Act.put, yD, yE, yF]
   refine tkH 7 (v := undef) rfl (by kernel_rfl) (fun _ _ _ h => h) (Or.inr ⟨by rfl, rfl⟩) hHeld ?_
   try simp only [yA, yB, yC, Act.put, yD, yE, yF]
   refine tkH 8 (v := undef) rfl (by kernel_rfl) (fun _ _ _ h => h) (Or.inr ⟨by rfl, rfl⟩) hHeld ?_
   try simp only [yA, yB, yC, Act.put, yD, yE, yF]
   refine tkH 9 (v := undef) rfl (by kernel_rfl) (fun _ _ _ h => h) (Or.inr ⟨by rfl, rfl⟩) hHeld ?_
   try simp only [yA, yB, yC, Act.put, yD, yE, yF]
   refine tkH 10 (v := undef) rfl (by kernel_rfl) (fun _ _ _ h => h) (Or.inr ⟨by rfl, rfl⟩) hHeld ?_
   try simp only [yA, yB, yC, Act.put, yD, yE, yF]
   refine tkH 11 (v := undef) rfl (by kernel_rfl) (fun _ _ _ h => h) (Or.inr ⟨by rfl, rfl⟩) hHeld ?_
   try simp only [yA, yB, yC, Act.put, yD, yE, yF]
   refine tkH 12 (v := undef) rfl (by kernel_rfl) (fun _ _ _ h => h) (Or.inr ⟨by rfl, rfl⟩) hHeld ?_
   try simp only [yA, yB, yC, Act.put, yD, yE, yF]
   refine tkH 13 (v := undef) rfl (by kernel_rfl) (fun _ _ _ h => h) (Or.inr ⟨by rfl, rfl⟩) hHeld ?_
   try simp only [yA, yB, yC, Act.put, yD, yE, yF]
   refine tkH 14 (v := undef) rfl (by kernel_rfl) (fun _ _ _ h => h) (Or.inr ⟨by rfl, rfl⟩) hHeld ?_
   try simp only [yA, yB, yC, Act.put, yD, yE, yF]
   refine tkH 15 (v := undef) rfl (by kernel_rfl) (fun _ _ _ h => h) (Or.inr ⟨by rfl, rfl⟩) hHeld ?_
   try simp only [yA, yB, yC, Act.put, yD, yE, yF]
   refine tkH 16 (v := undef) rfl (by kernel_rfl) (fun _ _ _ h => h) (Or.inr ⟨by rfl, rfl⟩) hHeld ?_
   try simp only [yA, yB, yC, Act.put, yD, yE, yF]
   refine tkH 17 (v := undef) rfl (by kernel_rfl) (fun _ _ _ h => h) (Or.inr ⟨by rfl, rfl⟩) hHeld ?_
   try simp only [yA, yB, yC, Act.put, yD, yE, yF]
   refine tkH 18 (v := undef) rfl (by kernel_rfl) (fun _ _ _ h => h) (Or.inr ⟨by rfl, rfl⟩) hHeld ?_
   try simp only [yA, yB, yC, Act.put, yD, yE, yF]
   refine tkH 19 (v := undef) rfl (by kernel_rfl) (fun _ _ _ h => h) (Or.inr ⟨by rfl, rfl⟩) hHeld ?_
   try simp only [yA, yB, yC, Act.put, yD, yE, yF]
   refine tkH 20 (v := undef) rfl (by kernel_rfl) (fun _ _ _ h => h) (Or.inr ⟨by rfl, rfl⟩) hHeld ?_
   try simp only [yA, yB, yC, Act.put, yD, yE, yF]
   refine tkH 21 (v := undef) rfl (by kernel_rfl) (fun _ _ _ h => h) (Or.inr ⟨by rfl, rfl⟩) hHeld ?_
   try simp only [yA, yB, yC, Act.put, yD, yE, yF]
   refine tkH 22 (v := undef) rfl (by kernel_rfl) (fun _ _ _ h => h) (Or.inr ⟨by rfl, rfl⟩) hHeld ?_
   try simp only [yA, yB, yC, Act.put, yD, yE, yF]
   refine tkH 23 (v := ?v23) rfl (by kernel_rfl) (fun _ _ _ h => h) (Or.inl ⟨by rfl, ?hy23⟩) hHeld ?_
   case hy23 => (intro w hSw; clear hSw; go_simp; try with_reducible rfl)
   try simp only [yA, yB, yC, Act.put, yD, yE, yF]
   refine tkH 24 (v := ?v24) rfl (by kernel_rfl) (fun _ _ _ h => h) (Or.inl ⟨by rfl, ?hy24⟩) hHeld ?_
   case hy24 => (intro w hSw; clear hSw; go_simp; try with_reducible rfl)
   try simp only [yA, yB, yC, Act.put, yD, yE, yF]
   refine tkH 25 (v := undef) rfl (by kernel_rfl) (fun _ _ _ h => h) (Or.inr ⟨by rfl, rfl⟩) hHeld ?_
   try simp only [yA, yB, yC, Act.put, yD, yE, yF]
   refine tkH 26 (v := undef) rfl (by kernel_rfl) (fun _ _ _ h => h) (Or.inr ⟨by rfl, rfl⟩) hHeld ?_
   try simp only [yA, yB, yC, Act.put, yD, yE, yF]
   refine tkH 27 (v := ?v27) rfl (by kernel_rfl) (fun _ _ _ h => h) (Or.inl ⟨by rfl, ?hy27⟩) hHeld ?_
   case hy27 => (intro w hSw; clear hSw; go_simp; try with_reducible rfl)
   try simp only [yA, yB, yC, Act.put, yD, yE, yF]
   refine wpAnyH_done (by kernel_rfl) ?_ _
   go_wp2_with fail
   go_meet
   exact ⟨rfl, hHeld, hC1⟩
  | false =>
   cases M with
   | false =>
    obtain rfl : R = false := by rw [hR]; rfl
    clear hR HR kZ
    refine wp_region_held_drew (S := fun w' => Blk P (unc c (.slice ta Hs.length tk)) 166 w') (by kernel_rfl) bP.drew (fun hHeld => ?_)
    refine tkH 0 (v := ?v28) rfl (by kernel_rfl) (fun _ _ _ h => h) (Or.inl ⟨by rfl, ?hy28⟩) hHeld ?_
    case hy28 => (intro w hSw; clear hSw; go_simp; try with_reducible rfl)
    try simp only [yA, yB, yC, Act.put, yD, yE, yF]
    refine tkH 1 (v := ?v29) rfl (by kernel_rfl) (fun _ _ _ h => h) (Or.inl ⟨by rfl, ?hy29⟩) hHeld ?_
    case hy29 => (intro w hSw; clear hSw; go_simp; try with_reducible rfl)
    try simp only [yA, yB, yC, Act.put, yD, yE, yF]
    refine tkH 2 (v := ?v30) rfl (by kernel_rfl) (fun _ _ _ h => h) (Or.inl ⟨by rfl, ?hy30⟩) hHeld ?_
    case hy30 => (intro w hSw; clear hSw; go_simp; try with_reducible rfl)
    try simp only [yA, yB, yC, Act.put, yD, yE, yF]
    refine' tkH 3 (v := _) rfl (by kernel_rfl) (fun _ _ _ h => h) (yieldsIf_load_mid (by rfl) _ _ rfl P 0 rfl (col c) _ ?hS31 Tryz.underlying78 rfl sizeCo) hHeld ?_
    case hS31 => exact fun w h => h.range 0 _ (unc_core _ _)
    try simp only [yA, yB, yC, Act.put, yD, yE, yF]
    refine wpAnyH_ready (rs := [4]) (by kernel_rfl) (by simp) ?_
    refine AllReadyH.cons rfl (fun K hK => ?_) (AllReadyH.nil)
    go_simp
    go_wp2_with (refine (pg _).mono ?_; rintro r u1 ⟨rfl, hb⟩)
    have hC1 := hC0.trans (hb.mono hC0.size)
    refine hK.out _ _ (hHeld.below hb) (fun hHeld => ?_)
    clear hK K hb hC0
    refine tkH 5 (v := ?v32) rfl (by kernel_rfl) (fun _ _ _ h => h) (Or.inl ⟨by rfl, ?hy32⟩) hHeld ?_
    case hy32 => (intro w hSw; clear hSw; go_simp; try with_reducible rfl)
    try simp only [yA, yB, yC, Act.put, yD, yE, yF]
    refine tkH 6 (v := ?v33) rfl (by kernel_rfl) (fun _ _ _ h => h) (Or.inl ⟨by rfl, ?hy33⟩) hHeld ?_
    case hy33 => (intro w hSw; clear hSw; go_simp; try with_reducible rfl)
    try simp only [yA, yB, yC, Act.put, yD, yE, yF]
    refine tkH 7 (v := ?v34) rfl (by kernel_rfl) (fun _ _ _ h => h) (Or.inl ⟨by rfl, ?hy34⟩) hHeld ?_
    case hy34 => (intro w hSw; clear hSw; go_simp; try with_reducible rfl)
    try simp only [yA, yB, yC, Act.put, yD, yE, yF]
    refine tkH 8 (v := ?v35) rfl (by kernel_rfl) (fun _ _ _ h => h) (Or.inl ⟨by rfl, ?hy35⟩) hHeld ?_
    case hy35 => (intro w hSw; clear hSw; go_simp; try with_reducible rfl)
    try simp only [yA, yB, yC, Act.put, yD, yE, yF]
    refine tkH 9 (v := ?v36) rfl (by kernel_rfl) (fun _ _ _ h => h) (Or.inl ⟨by rfl, ?hy36⟩) hHeld ?_
    case hy36 => (intro w hSw; clear hSw; go_simp; try with_reducible rfl)
    try simp only [yA, yB, yC, Act.put, yD, yE, yF]
    refine' tkH 10 (v := _) rfl (by kernel_rfl) (fun _ _ _ h => h) (yieldsIf_load_mid (by rfl) _ _ rfl P 31 rfl (row8 c.count) _ ?hS37 Tryz.underlying60 rfl sizeCt) hHeld ?_
    case hS37 => exact fun w h => h.range 31 _ (un_count _ _)
    try simp only [yA, yB, yC, Act.put, yD, yE, yF]
    refine tkH 11 (v := ?v38) rfl (by kernel_rfl) (fun _ _ _ h => h) (Or.inl ⟨by rfl, ?hy38⟩) hHeld ?_
    case hy38 => (intro w hSw; clear hSw; go_simp; try with_reducible rfl)
    try simp only [yA, yB, yC, Act.put, yD, yE, yF]
    refine tkH 12 (v := ?v39) rfl (by kernel_rfl) (fun _ _ _ h => h) (Or.inl ⟨by rfl, ?hy39⟩) hHeld ?_
    case hy39 => (intro w hSw; clear hSw; go_simp; try with_reducible rfl)
    try simp only [yA, yB, yC, Act.put, yD, yE, yF]
    refine tkH 13 (v := ?v40) rfl (by kernel_rfl) (fun _ _ _ h => h) (Or.inl ⟨by rfl, ?hy40⟩) hHeld ?_
    case hy40 => (intro w hSw; clear hSw; go_simp; try with_reducible rfl)
    try simp only [yA, yB, yC, Act.put, yD, yE, yF]
    refine tkH 14 (v := ?v41) rfl (by kernel_rfl) (fun _ _ _ h => h) (Or.inl ⟨by rfl, ?hy41⟩) hHeld ?_
    case hy41 => (intro w hSw; clear hSw; go_simp; try with_reducible rfl)
    try simp only [yA, yB, yC, Act.put, yD, yE, yF]
    refine' tkH 15 (v := _) rfl (by kernel_rfl) (fun _ _ _ h => h) (yieldsIf_load_mid (by rfl) _ _ rfl P 23 rfl (row8 c.mem) _ ?hS42 Tryz.underlying55 rfl sizeMb) hHeld ?_
    case hS42 => exact fun w h => h.range 23 _ (un_mem _ _)
    try simp only [yA, yB, yC, Act.put, yD, yE, yF]
    refine tkH 16 (v := ?v43) rfl (by kernel_rfl) (fun _ _ _ h => h) (Or.inl ⟨by rfl, ?hy43⟩) hHeld ?_
    case hy43 => (intro w hSw; clear hSw; go_simp; try with_reducible rfl)
    try simp only [yA, yB, yC, Act.put, yD, yE, yF]
    refine tkH 17 (v := ?v44) rfl (by kernel_rfl) (fun _ _ _ h => h) (Or.inl ⟨by rfl, ?hy44⟩) hHeld ?_
    case hy44 => (intro w hSw; clear hSw; go_simp; try with_reducible rfl)
    try simp only [yA, yB, yC, Act.put, yD, yE, yF]
    refine tkH 18 (v := ?v45) rfl (by kernel_rfl) (fun _ _ _ h => h) (Or.inl ⟨by rfl, ?hy45⟩) hHeld ?_
    case hy45 => (intro w hSw; clear hSw; go_simp; try with_reducible rfl)
    try simp only [yA, yB, yC, Act.put, yD, yE, yF]
    refine tkH 19 (v := ?v46) rfl (by kernel_rfl) (fun _ _ _ h => h) (Or.inl ⟨by rfl, ?hy46⟩) hHeld ?_
    case hy46 => (intro w hSw; clear hSw; go_simp; try with_reducible rfl)
    try simp only [yA, yB, yC, Act.put, yD, yE, yF]
    refine tkH 20 (v := ?v47) rfl (by kernel_rfl) (fun _ _ _ h => h) (Or.inl ⟨by rfl, ?hy47⟩) hHeld ?_
    case hy47 => (intro w hSw; have hc : w.cell? ⟨P, 0, none⟩ = some (.int .i64 (s : Int)) := (hSw.cell 0 (.int .i64 c.self) rfl).trans (by rw [hcs]); clear hSw; go_simp; try with_reducible rfl)
    try simp only [yA, yB, yC, Act.put, yD, yE, yF]
    refine wpAnyH_ready (rs := [21]) (by kernel_rfl) (by simp) ?_
    refine AllReadyH.cons rfl (fun K hK => ?_) (AllReadyH.nil)
    go_simp
    go_wp2_with (refine (pm _).mono ?_; rintro r u2 ⟨rfl, hb⟩)
    have hC2 := hC1.trans (hb.mono hC1.size)
    refine hK.out _ _ (hHeld.below hb) (fun hHeld => ?_)
    clear hK K hb hC1
    refine tkH 22 (v := ?v48) rfl (by kernel_rfl) (fun _ _ _ h => h) (Or.inl ⟨by rfl, ?hy48⟩) hHeld ?_
    case hy48 => (intro w hSw; clear hSw; go_simp; try with_reducible rfl)
    try simp only [yA, yB, yC, Act.put, yD, yE, yF]
    refine tkH 23 (v := ?v49) rfl (by kernel_rfl) (fun _ _ _ h => h) (Or.inl ⟨by rfl, ?hy49⟩) hHeld ?_
    case hy49 => (intro w hSw; clear hSw; go_simp; try with_reducible rfl)
    try simp only [yA, yB, yC, Act.put, yD, yE, yF]
    refine tkH 24 (v := ?v50) rfl (by kernel_rfl) (fun _ _ _ h => h) (Or.inl ⟨by rfl, ?hy50⟩) hHeld ?_
    case hy50 => (intro w hSw; clear hSw; go_simp; try with_reducible rfl)
    try simp only [yA, yB, yC, Act.put, yD, yE, yF]
    refine tkH 25 (v := undef) rfl (by kernel_rfl) (fun _ _ _ h => h) (Or.inr ⟨by rfl, rfl⟩) hHeld ?_
    try simp only [yA, yB, yC, Act.put, yD, yE, yF]
    refine tkH 26 (v := undef) rfl (by kernel_rfl) (fun _ _ _ h => h) (Or.inr ⟨by rfl, rfl⟩) hHeld ?_
    try simp only [yA, yB, yC, Act.put, yD, yE, yF]
    refine tkH 27 (v := ?v53) rfl (by kernel_rfl) (fun _ _ _ h => h) (Or.inl ⟨by rfl, ?hy53⟩) hHeld ?_
    case hy53 => (intro w hSw; clear hSw; go_simp; try with_reducible rfl)
    try simp only [yA, yB, yC, Act.put, yD, yE, yF]
    refine wpAnyH_done (by kernel_rfl) ?_ _
    go_wp2_with fail
    go_meet
    exact ⟨rfl, hHeld, hC2⟩
   | true =>
    obtain rfl : Z = !R := by rw [hR]; cases Z <;> rfl
    clear hR HR
    refine wp_region_held_drew (S := fun w' => Blk P (unc c (.slice ta Hs.length tk)) 166 w') (by kernel_rfl) bP.drew (fun hHeld => ?_)
    refine tkH 0 (v := ?v54) rfl (by kernel_rfl) (fun _ _ _ h => h) (Or.inl ⟨by rfl, ?hy54⟩) hHeld ?_
    case hy54 => (intro w hSw; clear hSw; go_simp; try with_reducible rfl)
    try simp only [yA, yB, yC, Act.put, yD, yE, yF]
    refine tkH 1 (v := ?v55) rfl (by kernel_rfl) (fun _ _ _ h => h) (Or.inl ⟨by rfl, ?hy55⟩) hHeld ?_
    case hy55 => (intro w hSw; clear hSw; go_simp; try with_reducible rfl)
    try simp only [yA, yB, yC, Act.put, yD, yE, yF]
    refine tkH 2 (v := ?v56) rfl (by kernel_rfl) (fun _ _ _ h => h) (Or.inl ⟨by rfl, ?hy56⟩) hHeld ?_
    case hy56 => (intro w hSw; clear hSw; go_simp; try with_reducible rfl)
    try simp only [yA, yB, yC, Act.put, yD, yE, yF]
    refine' tkH 3 (v := _) rfl (by kernel_rfl) (fun _ _ _ h => h) (yieldsIf_load_mid (by rfl) _ _ rfl P 0 rfl (col c) _ ?hS57 Tryz.underlying78 rfl sizeCo) hHeld ?_
    case hS57 => exact fun w h => h.range 0 _ (unc_core _ _)
    try simp only [yA, yB, yC, Act.put, yD, yE, yF]
    refine wpAnyH_ready (rs := [4]) (by kernel_rfl) (by simp) ?_
    refine AllReadyH.cons rfl (fun K hK => ?_) (AllReadyH.nil)
    go_simp
    go_wp2_with (refine (pg _).mono ?_; rintro r u1 ⟨rfl, hb⟩)
    have hC1 := hC0.trans (hb.mono hC0.size)
    refine hK.out _ _ (hHeld.below hb) (fun hHeld => ?_)
    clear hK K hb hC0
    refine tkH 5 (v := ?v58) rfl (by kernel_rfl) (fun _ _ _ h => h) (Or.inl ⟨by rfl, ?hy58⟩) hHeld ?_
    case hy58 => (intro w hSw; clear hSw; go_simp; try with_reducible rfl)
    try simp only [yA, yB, yC, Act.put, yD, yE, yF]
    refine tkH 6 (v := ?v59) rfl (by kernel_rfl) (fun _ _ _ h => h) (Or.inl ⟨by rfl, ?hy59⟩) hHeld ?_
    case hy59 => (intro w hSw; clear hSw; go_simp; try with_reducible rfl)
    try simp only [yA, yB, yC, Act.put, yD, yE, yF]
    refine tkH 7 (v := ?v60) rfl (by kernel_rfl) (fun _ _ _ h => h) (Or.inl ⟨by rfl, ?hy60⟩) hHeld ?_
    case hy60 => (intro w hSw; clear hSw; go_simp; try with_reducible rfl)
    try simp only [yA, yB, yC, Act.put, yD, yE, yF]
    refine tkH 8 (v := ?v61) rfl (by kernel_rfl) (fun _ _ _ h => h) (Or.inl ⟨by rfl, ?hy61⟩) hHeld ?_
    case hy61 => (intro w hSw; clear hSw; go_simp; try with_reducible rfl)
    try simp only [yA, yB, yC, Act.put, yD, yE, yF]
    refine tkH 9 (v := ?v62) rfl (by kernel_rfl) (fun _ _ _ h => h) (Or.inl ⟨by rfl, ?hy62⟩) hHeld ?_
    case hy62 => (intro w hSw; clear hSw; go_simp; try with_reducible rfl)
    try simp only [yA, yB, yC, Act.put, yD, yE, yF]
    refine' tkH 10 (v := _) rfl (by kernel_rfl) (fun _ _ _ h => h) (yieldsIf_load_mid (by rfl) _ _ rfl P 31 rfl (row8 c.count) _ ?hS63 Tryz.underlying60 rfl sizeCt) hHeld ?_
    case hS63 => exact fun w h => h.range 31 _ (un_count _ _)
    try simp only [yA, yB, yC, Act.put, yD, yE, yF]
    refine tkH 11 (v := ?v64) rfl (by kernel_rfl) (fun _ _ _ h => h) (Or.inl ⟨by rfl, ?hy64⟩) hHeld ?_
    case hy64 => (intro w hSw; clear hSw; go_simp; try with_reducible rfl)
    try simp only [yA, yB, yC, Act.put, yD, yE, yF]
    refine tkH 12 (v := ?v65) rfl (by kernel_rfl) (fun _ _ _ h => h) (Or.inl ⟨by rfl, ?hy65⟩) hHeld ?_
    case hy65 => (intro w hSw; clear hSw; go_simp; try with_reducible rfl)
    try simp only [yA, yB, yC, Act.put, yD, yE, yF]
    refine tkH 13 (v := ?v66) rfl (by kernel_rfl) (fun _ _ _ h => h) (Or.inl ⟨by rfl, ?hy66⟩) hHeld ?_
    case hy66 => (intro w hSw; clear hSw; go_simp; try with_reducible rfl)
    try simp only [yA, yB, yC, Act.put, yD, yE, yF]
    refine tkH 14 (v := ?v67) rfl (by kernel_rfl) (fun _ _ _ h => h) (Or.inl ⟨by rfl, ?hy67⟩) hHeld ?_
    case hy67 => (intro w hSw; clear hSw; go_simp; try with_reducible rfl)
    try simp only [yA, yB, yC, Act.put, yD, yE, yF]
    refine' tkH 15 (v := _) rfl (by kernel_rfl) (fun _ _ _ h => h) (yieldsIf_load_mid (by rfl) _ _ rfl P 23 rfl (row8 c.mem) _ ?hS68 Tryz.underlying55 rfl sizeMb) hHeld ?_
    case hS68 => exact fun w h => h.range 23 _ (un_mem _ _)
    try simp only [yA, yB, yC, Act.put, yD, yE, yF]
    refine tkH 16 (v := ?v69) rfl (by kernel_rfl) (fun _ _ _ h => h) (Or.inl ⟨by rfl, ?hy69⟩) hHeld ?_
    case hy69 => (intro w hSw; clear hSw; go_simp; try with_reducible rfl)
    try simp only [yA, yB, yC, Act.put, yD, yE, yF]
    refine tkH 17 (v := ?v70) rfl (by kernel_rfl) (fun _ _ _ h => h) (Or.inl ⟨by rfl, ?hy70⟩) hHeld ?_
    case hy70 => (intro w hSw; clear hSw; go_simp; try with_reducible rfl)
    try simp only [yA, yB, yC, Act.put, yD, yE, yF]
    refine tkH 18 (v := ?v71) rfl (by kernel_rfl) (fun _ _ _ h => h) (Or.inl ⟨by rfl, ?hy71⟩) hHeld ?_
    case hy71 => (intro w hSw; clear hSw; go_simp; try with_reducible rfl)
    try simp only [yA, yB, yC, Act.put, yD, yE, yF]
    refine tkH 19 (v := ?v72) rfl (by kernel_rfl) (fun _ _ _ h => h) (Or.inl ⟨by rfl, ?hy72⟩) hHeld ?_
    case hy72 => (intro w hSw; clear hSw; go_simp; try with_reducible rfl)
    try simp only [yA, yB, yC, Act.put, yD, yE, yF]
    refine tkH 20 (v := ?v73) rfl (by kernel_rfl) (fun _ _ _ h => h) (Or.inl ⟨by rfl, ?hy73⟩) hHeld ?_
    case hy73 => (intro w hSw; have hc : w.cell? ⟨P, 0, none⟩ = some (.int .i64 (s : Int)) := (hSw.cell 0 (.int .i64 c.self) rfl).trans (by rw [hcs]); clear hSw; go_simp; try with_reducible rfl)
    try simp only [yA, yB, yC, Act.put, yD, yE, yF]
    refine wpAnyH_ready (rs := [21]) (by kernel_rfl) (by simp) ?_
    refine AllReadyH.cons rfl (fun K hK => ?_) (AllReadyH.nil)
    go_simp
    go_wp2_with (refine (pm _).mono ?_; rintro r u2 ⟨rfl, hb⟩)
    have hC2 := hC1.trans (hb.mono hC1.size)
    refine hK.out _ _ (hHeld.below hb) (fun hHeld => ?_)
    clear hK K hb hC1
    refine tkH 22 (v := ?v74) rfl (by kernel_rfl) (fun _ _ _ h => h) (Or.inl ⟨by rfl, ?hy74⟩) hHeld ?_
    case hy74 => (intro w hSw; clear hSw; go_simp; try with_reducible rfl)
    try simp only [yA, yB, yC, Act.put, yD, yE, yF]
    refine tkH 23 (v := ?v75) rfl (by kernel_rfl) (fun _ _ _ h => h) (Or.inl ⟨by rfl, ?hy75⟩) hHeld ?_
    case hy75 => (intro w hSw; clear hSw; go_simp; try with_reducible rfl)
    try simp only [yA, yB, yC, Act.put, yD, yE, yF]
    refine tkH 24 (v := ?v76) rfl (by kernel_rfl) (fun _ _ _ h => h) (Or.inl ⟨by rfl, ?hy76⟩) hHeld ?_
    case hy76 => (intro w hSw; clear hSw; go_simp; try with_reducible rfl)
    try simp only [yA, yB, yC, Act.put, yD, yE, yF]
    refine tkH 25 (v := ?v77) rfl (by kernel_rfl) (fun _ _ _ h => h) (Or.inl ⟨by rfl, ?hy77⟩) hHeld ?_
    case hy77 => (intro w hSw; clear hSw; go_simp; try with_reducible rfl)
    try simp only [yA, yB, yC, Act.put, yD, yE, yF]
    refine tkH 26 (v := ?v78) rfl (by kernel_rfl) (fun _ _ _ h => h) (Or.inl ⟨by rfl, ?hy78⟩) hHeld ?_
    case hy78 => (intro w hSw; clear hSw; go_simp; try with_reducible rfl)
    try simp only [yA, yB, yC, Act.put, yD, yE, yF]
    refine tkH 27 (v := ?v79) rfl (by kernel_rfl) (fun _ _ _ h => h) (Or.inl ⟨by rfl, ?hy79⟩) hHeld ?_
    case hy79 => (intro w hSw; clear hSw; go_simp; try with_reducible rfl)
    try simp only [yA, yB, yC, Act.put, yD, yE, yF]
    refine wpAnyH_done (by kernel_rfl) ?_ _
    go_wp2_with fail
    go_meet
    exact ⟨rfl, hHeld, hC2⟩
 case rest =>
  obtain ⟨rfl, bP', hb⟩ := hcut
  clear bP hC0 pg pm
  rename World => w2
  have bP := bP'
  replace a0 := a0.below hb
  replace hB := hB.trans (hb.mono hB.size)
  clear bP' hb
  cases R with
  | false =>
   go_wp2_with fail
   go_ret
   exact ⟨rfl, fin_no _ hB HR.out⟩
  | true =>
   clear fin_no
   obtain ⟨rfl, rfl, rfl⟩ : g = false ∧ M = true ∧ Z = false := by revert hR; cases g <;> cases M <;> cases Z <;> simp
   have hZ' : o ≠ 4294967295 := of_decide_eq_false hZ
   obtain ⟨nx, hnx⟩ : ∃ v, o + 1 = v := ⟨_, rfl⟩
   have hw1 : IntKind.u32.wrap ((o : Int) + 1) = (nx : Int) := by rw [IntKind.wrap_u32]; omega
   have hnl : nx < 4294967296 := by omega
   obtain ⟨x, hx⟩ : ∃ x, (Kt.mk (s : Int) nx f hnl) = x := ⟨_, rfl⟩
   have hxk : nextK c f = x := by
    rw [← hx]
    unfold nextK
    have e : (ownN c + 1) % 4294967296 = nx := by rw [ho, hnx]; exact Nat.mod_eq_of_lt hnl
    simp only [hcs, e]
   have Hx : Hid ((Kt.mk (s : Int) nx f hnl) = x) := hx
   have htk : takesB c.count c.mem x = true := by
    have hm2 : isM c.mem (s : Int) = true := by
     have := hM
     unfold mayB at this
     rw [Bool.and_eq_true] at this
     exact this.1
    rw [← hx]
    unfold takesB
    rw [Bool.and_eq_true]
    refine ⟨hm2, ?_⟩
    rw [decide_eq_true_eq]
    show nx = c.count (s : Int).toNat + 1
    rw [Int.toNat_natCast, ← eo, ho]
    exact hnx.symm
   have HF : Hid (sendS ⟨c, L, Hs⟩ f = ⟨c.wCount (takeC c.count x), takeL L x, Hs ++ [takeH x]⟩) := by
    show sendS ⟨c, L, Hs⟩ f = _
    rw [sendS, HR.out, if_pos rfl, sentS, hxk]
   clear hR HR hM hZ hZ' kZ hx hxk hnx ho eo
   have hBs := hB.size
   replace hL := hL.below hB
   replace hG := hG.below hB
   go_upto_region 4 with fail
   have hal := a0.lt
   have hdr : w2.drew.heap.size = w2.heap.size := rfl
   have hC0 : Below w2.heap.size w2 w2.drew := (Below.refl _ _).drew
   go_cut [6] from 40 to 48 (fun v wx => ∃ Y, v = .pointer (some ⟨Y, 0, none⟩) ∧ w2.heap.size ≤ Y ∧ Blk Y (Kt.mk (s : Int) nx f hnl).arr 53 wx ∧ Blk P (unc c (.slice ta Hs.length tk)) 166 wx ∧ Below w2.heap.size w2 wx)
   case first =>
    clear hL hG HF
    refine wp_region_held_drew (S := fun w' => Blk P (unc c (.slice ta Hs.length tk)) 166 w' ∧ Blk w.heap.size (frc f) 43 w') (by kernel_rfl) ⟨bP.drew, a0.drew⟩ (fun hHeld => ?_)
    refine tkH 0 (v := ?v80) rfl (by kernel_rfl) (fun _ _ _ h => h) (Or.inl ⟨by rfl, ?hy80⟩) hHeld ?_
    case hy80 => (intro w hSw; clear hSw; go_simp; try with_reducible rfl)
    try simp only [yA, yB, yC, Act.put, yD, yE, yF]
    refine tkH 1 (v := ?v81) rfl (by kernel_rfl) (fun _ _ _ h => h) (Or.inl ⟨by rfl, ?hy81⟩) hHeld ?_
    case hy81 => (intro w hSw; clear hSw; go_simp; try with_reducible rfl)
    try simp only [yA, yB, yC, Act.put, yD, yE, yF]
    refine tkH 2 (v := ?v82) rfl (by kernel_rfl) (fun _ _ _ h => h) (Or.inl ⟨by rfl, ?hy82⟩) hHeld ?_
    case hy82 => (intro w hSw; clear hSw; go_simp; try with_reducible rfl)
    try simp only [yA, yB, yC, Act.put, yD, yE, yF]
    refine tkH 3 (v := ?v83) rfl (by kernel_rfl) (fun _ _ _ h => h) (Or.inl ⟨by rfl, ?hy83⟩) hHeld ?_
    case hy83 => (intro w hSw; clear hSw; go_simp; try with_reducible rfl)
    try simp only [yA, yB, yC, Act.put, yD, yE, yF]
    refine tkH 4 (v := ?v84) rfl (by kernel_rfl) (fun _ _ _ h => h) (Or.inl ⟨by rfl, ?hy84⟩) hHeld ?_
    case hy84 => (intro w hSw; have hc : w.cell? ⟨P, 0, none⟩ = some (.int .i64 (s : Int)) := (hSw.1.cell 0 (.int .i64 c.self) rfl).trans (by rw [hcs]); clear hSw; go_simp; try with_reducible rfl)
    try simp only [yA, yB, yC, Act.put, yD, yE, yF]
    refine tkH 5 (v := ?v85) rfl (by kernel_rfl) (fun _ _ _ h => h) (Or.inl ⟨by rfl, ?hy85⟩) hHeld ?_
    case hy85 => (intro w hSw; clear hSw; go_simp; try with_reducible rfl)
    try simp only [yA, yB, yC, Act.put, yD, yE, yF]
    refine tkH 6 (v := ?v86) rfl (by kernel_rfl) (fun _ _ _ h => h) (Or.inl ⟨by rfl, ?hy86⟩) hHeld ?_
    case hy86 => (intro w hSw; clear hSw; go_simp; try with_reducible rfl)
    try simp only [yA, yB, yC, Act.put, yD, yE, yF]
    refine' tkH 7 (v := _) rfl (by kernel_rfl) (fun _ _ _ h => h) (yieldsIf_load_mid (by rfl) _ _ rfl w.heap.size 0 rfl (frv f) _ ?hS87 Tryz.underlying43 rfl sizeFr) hHeld ?_
    case hS87 => exact fun w h => h.2.whole
    try simp only [yA, yB, yC, Act.put, yD, yE, yF]
    refine wpAnyH_take (i := 8) (v := .agg (Kt.mk (s : Int) nx f hnl).arr) rfl (by kernel_rfl) (by kernel_rfl) (by kernel_rfl) (fun _ _ _ h => h) (yields_build (by rfl) 53 #[(0, .tmp 44), (1, .tmp 46), (2, .tmp 47)] rfl (by kernel_rfl)) hHeld ?_
    try simp only [yA, yB, yC, Act.put, yD, yE, yF]
    refine wpAnyH_ready (rs := [9]) (by kernel_rfl) (by simp) ?_
    refine AllReadyH.cons rfl (fun K hK => ?_) (AllReadyH.nil)
    rw [if_pos (by rfl)]
    refine wp_alloc_any zeroKt rfl ?_
    intro yp u1 y1 hb yl yt
    have yg := Nat.le_trans hC0.size yl
    have hC1 := hC0.trans (hb.mono hC0.size)
    refine hK.out _ _ ⟨hHeld.1.below hb, hHeld.2.below hb⟩ (fun hHeld => ?_)
    clear hK K hb hC0
    try simp only [yA, yB, yC, Act.put, yD, yE, yF]
    refine wpAnyH_ready (rs := [10]) (by kernel_rfl) (by simp) ?_
    refine AllReadyH.cons rfl (fun K hK => ?_) (AllReadyH.nil)
    rw [if_pos (by rfl)]
    refine wp_store_all 53 _ _ rfl (cells := (Kt.mk (s : Int) nx f hnl).arr) y1 rfl rfl sizeKt rfl (Kt.arr_one _) ?_
    intro u2 hn hk
    have hC2 := hC1.trans (hk.below (by simp <;> omega) hC1.size)
    have y2 := hn
    refine hK.out _ _ ⟨hHeld.1.kp hk (by simp <;> omega), hHeld.2.kp hk (by simp <;> omega)⟩ (fun hHeld => ?_)
    clear hK K hk hn hC1 y1
    try simp only [yA, yB, yC, Act.put, yD, yE, yF]
    refine wpAnyH_done (by kernel_rfl) ?_ _
    go_wp2_with fail
    go_meet
    exact ⟨yp, rfl, yg, y2, hHeld.1, hC2⟩
   case rest =>
    obtain ⟨Y, rfl, hY, y0, bP', hb⟩ := hcut
    rw [Hx.out] at y0
    clear bP hC0 Hx hw1
    rename World => w3
    have bP := bP'.drew
    have hY0 := y0.drew
    replace hL := (hL.below hb).below (Below.refl _ _).drew
    replace hG := (hG.below hb).below (Below.refl _ _).drew
    replace hB : Below w.heap.size w w3.drew := (hB.trans (hb.mono hB.size)).drew
    have hPw2 : P < w2.heap.size := Nat.lt_of_lt_of_le hP hBs
    clear bP' y0 hb
    have hP3 : P < w3.drew.heap.size := bP.lt
    have hW3 : w.heap.size ≤ w3.drew.heap.size := hB.size
    go_upto_region 5 with fail
    refine wp_region_held_drew (S := fun w' => (∃ x1 a1 n1 k1, Blk P (unc (Co.mk c.self c.wait c.own c.beat c.conf c.mem x1 a1 n1 k1 c.pr c.want c.cut c.rdy c.peers c.epoch) (.slice ta Hs.length tk)) 166 w') ∧ Blk Y x.arr 53 w') (by kernel_rfl) ⟨⟨_, _, _, _, bP⟩, hY0⟩ (fun hHeld => ?_)
    refine tkH 0 (v := ?v89) rfl (by kernel_rfl) (fun _ _ _ h => h) (Or.inl ⟨by rfl, ?hy89⟩) hHeld ?_
    case hy89 => (intro w hSw; clear hSw; go_simp; try with_reducible rfl)
    try simp only [yA, yB, yC, Act.put, yD, yE, yF]
    refine tkH 1 (v := ?v90) rfl (by kernel_rfl) (fun _ _ _ h => h) (Or.inl ⟨by rfl, ?hy90⟩) hHeld ?_
    case hy90 => (intro w hSw; clear hSw; go_simp; try with_reducible rfl)
    try simp only [yA, yB, yC, Act.put, yD, yE, yF]
    refine tkH 2 (v := ?v91) rfl (by kernel_rfl) (fun _ _ _ h => h) (Or.inl ⟨by rfl, ?hy91⟩) hHeld ?_
    case hy91 => (intro w hSw; clear hSw; go_simp; try with_reducible rfl)
    try simp only [yA, yB, yC, Act.put, yD, yE, yF]
    refine tkH 3 (v := ?v92) rfl (by kernel_rfl) (fun _ _ _ h => h) (Or.inl ⟨by rfl, ?hy92⟩) hHeld ?_
    case hy92 => (intro w hSw; clear hSw; go_simp; try with_reducible rfl)
    try simp only [yA, yB, yC, Act.put, yD, yE, yF]
    refine tkH 4 (v := ?v93) rfl (by kernel_rfl) (fun _ _ _ h => h) (Or.inl ⟨by rfl, ?hy93⟩) hHeld ?_
    case hy93 => (intro w hSw; clear hSw; go_simp; try with_reducible rfl)
    try simp only [yA, yB, yC, Act.put, yD, yE, yF]
    refine tkH 5 (v := ?v94) rfl (by kernel_rfl) (fun _ _ _ h => h) (Or.inl ⟨by rfl, ?hy94⟩) hHeld ?_
    case hy94 => (intro w hSw; clear hSw; go_simp; try with_reducible rfl)
    try simp only [yA, yB, yC, Act.put, yD, yE, yF]
    refine tkH 7 (v := ?v95) rfl (by kernel_rfl) (fun _ _ _ h => h) (Or.inl ⟨by rfl, ?hy95⟩) hHeld ?_
    case hy95 => (intro w hSw; clear hSw; go_simp; try with_reducible rfl)
    try simp only [yA, yB, yC, Act.put, yD, yE, yF]
    refine tkH 8 (v := ?v96) rfl (by kernel_rfl) (fun _ _ _ h => h) (Or.inl ⟨by rfl, ?hy96⟩) hHeld ?_
    case hy96 => (intro w hSw; clear hSw; go_simp; try with_reducible rfl)
    try simp only [yA, yB, yC, Act.put, yD, yE, yF]
    refine tkH 9 (v := ?v97) rfl (by kernel_rfl) (fun _ _ _ h => h) (Or.inl ⟨by rfl, ?hy97⟩) hHeld ?_
    case hy97 => (intro w hSw; clear hSw; go_simp; try with_reducible rfl)
    try simp only [yA, yB, yC, Act.put, yD, yE, yF]
    refine tkH 10 (v := ?v98) rfl (by kernel_rfl) (fun _ _ _ h => h) (Or.inl ⟨by rfl, ?hy98⟩) hHeld ?_
    case hy98 => (intro w hSw; clear hSw; go_simp; try with_reducible rfl)
    try simp only [yA, yB, yC, Act.put, yD, yE, yF]
    refine tkH 12 (v := ?v99) rfl (by kernel_rfl) (fun _ _ _ h => h) (Or.inl ⟨by rfl, ?hy99⟩) hHeld ?_
    case hy99 => (intro w hSw; clear hSw; go_simp; try with_reducible rfl)
    try simp only [yA, yB, yC, Act.put, yD, yE, yF]
    refine tkH 13 (v := ?v100) rfl (by kernel_rfl) (fun _ _ _ h => h) (Or.inl ⟨by rfl, ?hy100⟩) hHeld ?_
    case hy100 => (intro w hSw; clear hSw; go_simp; try with_reducible rfl)
    try simp only [yA, yB, yC, Act.put, yD, yE, yF]
    refine tkH 14 (v := ?v101) rfl (by kernel_rfl) (fun _ _ _ h => h) (Or.inl ⟨by rfl, ?hy101⟩) hHeld ?_
    case hy101 => (intro w hSw; clear hSw; go_simp; try with_reducible rfl)
    try simp only [yA, yB, yC, Act.put, yD, yE, yF]
    refine tkH 15 (v := ?v102) rfl (by kernel_rfl) (fun _ _ _ h => h) (Or.inl ⟨by rfl, ?hy102⟩) hHeld ?_
    case hy102 => (intro w hSw; clear hSw; go_simp; try with_reducible rfl)
    try simp only [yA, yB, yC, Act.put, yD, yE, yF]
    refine' tkH 16 (v := _) rfl (by kernel_rfl) (fun _ _ _ h => h) (yieldsIf_load_mid (by rfl) _ _ rfl P 23 rfl (row8 c.mem) _ ?hS103 Tryz.underlying55 rfl sizeMb) hHeld ?_
    case hS103 => exact fun w h => (by obtain ⟨⟨x1, a1, n1, k1, h⟩, _⟩ := h; exact h.range 23 _ (un_mem _ _))
    try simp only [yA, yB, yC, Act.put, yD, yE, yF]
    refine' tkH 17 (v := _) rfl (by kernel_rfl) (fun _ _ _ h => h) (yieldsIf_load_mid (by rfl) _ _ rfl Y 0 rfl x.vals _ ?hS104 Tryz.underlying53 rfl sizeKt) hHeld ?_
    case hS104 => exact fun w h => h.2.whole
    try simp only [yA, yB, yC, Act.put, yD, yE, yF]
    refine wpAnyH_ready (rs := [6, 11]) (by kernel_rfl) (by simp) ?_
    refine AllReadyH.cons rfl (fun K hK => ?_) (AllReadyH.cons rfl (fun K hK => ?_) (AllReadyH.nil))
    ·rw [if_pos (by rfl)]
     refine wp_load_cell 73 _ rfl (.slice c.ka L.length c.kc) rfl ((bP.cell 39 (.slice c.ka c.kn c.kc) rfl).trans (by rw [hn])) Tryz.underlying73 rfl ?_
     refine hK.out _ _ hHeld (fun hHeld => ?_)
     clear hK K 
     try simp only [yA, yB, yC, Act.put, yD, yE, yF]
     refine wpAnyH_ready (rs := [11]) (by kernel_rfl) (by simp) ?_
     refine AllReadyH.cons rfl (fun K hK => ?_) (AllReadyH.nil)
     rw [if_pos (by rfl)]
     refine wp_load_part 60 _ rfl (o := 31) bP rfl (row8 c.count) (un_count _ _) Tryz.underlying60 rfl sizeCt ?_
     refine hK.out _ _ hHeld (fun hHeld => ?_)
     clear hK K 
     try simp only [yA, yB, yC, Act.put, yD, yE, yF]
     refine wpAnyH_ready (rs := [18]) (by kernel_rfl) (by simp) ?_
     refine AllReadyH.cons rfl (fun K hK => ?_) (AllReadyH.nil)
     go_simp
     go_wp2_with (refine (take_yes L c.ka c.kc c.count c.mem x hc hl htk _ (hL.mono (Nat.zero_le _))).mono ?_; rintro r u3 ⟨⟨a2, k2, rfl, hL2⟩, hb⟩)
     replace bP := bP.below hb
     replace hG := hG.below hb
     replace hB := hB.trans (hb.mono hB.size)
     have hPv := bP.lt
     refine hK.out _ _ ⟨⟨_, _, _, _, bP⟩, hHeld.2.below hb⟩ (fun hHeld => ?_)
     clear hK K hL
     refine tkH 19 (v := ?v105) rfl (by kernel_rfl) (fun _ _ _ h => h) (Or.inl ⟨by rfl, ?hy105⟩) hHeld ?_
     case hy105 => (intro w hSw; clear hSw; go_simp; try with_reducible rfl)
     try simp only [yA, yB, yC, Act.put, yD, yE, yF]
     refine tkH 20 (v := ?v106) rfl (by kernel_rfl) (fun _ _ _ h => h) (Or.inl ⟨by rfl, ?hy106⟩) hHeld ?_
     case hy106 => (intro w hSw; clear hSw; go_simp; try with_reducible rfl)
     try simp only [yA, yB, yC, Act.put, yD, yE, yF]
     refine tkH 21 (v := ?v107) rfl (by kernel_rfl) (fun _ _ _ h => h) (Or.inl ⟨by rfl, ?hy107⟩) hHeld ?_
     case hy107 => (intro w hSw; clear hSw; go_simp; try with_reducible rfl)
     try simp only [yA, yB, yC, Act.put, yD, yE, yF]
     refine tkH 22 (v := ?v108) rfl (by kernel_rfl) (fun _ _ _ h => h) (Or.inl ⟨by rfl, ?hy108⟩) hHeld ?_
     case hy108 => (intro w hSw; clear hSw; go_simp; try with_reducible rfl)
     try simp only [yA, yB, yC, Act.put, yD, yE, yF]
     refine tkH 23 (v := ?v109) rfl (by kernel_rfl) (fun _ _ _ h => h) (Or.inl ⟨by rfl, ?hy109⟩) hHeld ?_
     case hy109 => (intro w hSw; clear hSw; go_simp; try with_reducible rfl)
     try simp only [yA, yB, yC, Act.put, yD, yE, yF]
     refine tkH 24 (v := ?v110) rfl (by kernel_rfl) (fun _ _ _ h => h) (Or.inl ⟨by rfl, ?hy110⟩) hHeld ?_
     case hy110 => (intro w hSw; clear hSw; go_simp; try with_reducible rfl)
     try simp only [yA, yB, yC, Act.put, yD, yE, yF]
     refine tkH 25 (v := ?v111) rfl (by kernel_rfl) (fun _ _ _ h => h) (Or.inl ⟨by rfl, ?hy111⟩) hHeld ?_
     case hy111 => (intro w hSw; clear hSw; go_simp; try with_reducible rfl)
     try simp only [yA, yB, yC, Act.put, yD, yE, yF]
     refine wpAnyH_ready (rs := [26]) (by kernel_rfl) (by simp) ?_
     refine AllReadyH.cons rfl (fun K hK => ?_) (AllReadyH.nil)
     rw [if_pos (by rfl)]
     refine wp_store_one 73 _ _ rfl (off := 39) (.slice a2 (takeL L x).length k2) bP rfl rfl rfl rfl sizeSl (by rw [unc_size]; decide) ?_
     intro u4 hn9 hk9
     rw [unc_set _ _ _ 39 _ (Co.s_kept c a2 (takeL L x).length k2) (by decide)] at hn9
     replace bP := hn9
     have kP := hk9
     replace hG := hG.kp hk9 (by simp)
     replace hL2 := hL2.off hk9 (fun x hx => by simp at hx; subst hx; exact Off.li hL2 _ (.inl (by omega)))
     refine hK.out _ _ ⟨⟨_, _, _, _, bP⟩, hHeld.2.kp1 hk9 (by omega)⟩ (fun hHeld => ?_)
     clear hK K hn9 hk9
     try simp only [yA, yB, yC, Act.put, yD, yE, yF]
     refine tkH 27 (v := ?v112) rfl (by kernel_rfl) (fun _ _ _ h => h) (Or.inl ⟨by rfl, ?hy112⟩) hHeld ?_
     case hy112 => (intro w hSw; clear hSw; go_simp; try with_reducible rfl)
     try simp only [yA, yB, yC, Act.put, yD, yE, yF]
     refine tkH 28 (v := ?v113) rfl (by kernel_rfl) (fun _ _ _ h => h) (Or.inl ⟨by rfl, ?hy113⟩) hHeld ?_
     case hy113 => (intro w hSw; clear hSw; go_simp; try with_reducible rfl)
     try simp only [yA, yB, yC, Act.put, yD, yE, yF]
     refine tkH 29 (v := ?v114) rfl (by kernel_rfl) (fun _ _ _ h => h) (Or.inl ⟨by rfl, ?hy114⟩) hHeld ?_
     case hy114 => (intro w hSw; clear hSw; go_simp; try with_reducible rfl)
     try simp only [yA, yB, yC, Act.put, yD, yE, yF]
     refine wpAnyH_ready (rs := [30]) (by kernel_rfl) (by simp) ?_
     refine AllReadyH.cons rfl (fun K hK => ?_) (AllReadyH.nil)
     rw [if_pos (by rfl)]
     refine wp_store_part 60 _ _ rfl (off := 31) (cells := (mbc (takeC c.count x))) bP rfl rfl sizeCt (show 31 + 8 ≤ 190 by decide) (mbc_one _) ?_
     intro u5 hn9 hk9
     rw [unc_put _ _ _ 31 _ (Co.s_count _ (takeC c.count x)) (show 31 + 8 ≤ 189 by decide)] at hn9
     replace bP := hn9
     replace kP := kP.trans (hk9.mono (fun i hi => by simp at hi; simp [hi]))
     replace hG := hG.kp hk9 (by simp)
     replace hL2 := hL2.off hk9 (fun x hx => by simp at hx; subst hx; exact Off.li hL2 _ (.inl (by omega)))
     refine hK.out _ _ ⟨⟨_, _, _, _, bP⟩, hHeld.2.kp1 hk9 (by omega)⟩ (fun hHeld => ?_)
     clear hK K hn9 hk9
     try simp only [yA, yB, yC, Act.put, yD, yE, yF]
     refine wpAnyH_done (by kernel_rfl) ?_ _
     have y1 := hHeld.2
     clear hHeld
     go_upto_region 6 with fail
     go_wp2_with (refine load_blk rfl 53 _ rfl y1 rfl Tryz.underlying53 rfl sizeKt ?_)
     refine (tell_ok P _ ta tk Hs x ht _ bP hG).mono ?_
     rintro r w9 ⟨rfl, ta', tk', h1, h2, h3, h4⟩
     go_wp2_with fail
     go_ret
     have hkz := kP.size
     exact ⟨rfl, Uv.sim (s := sendS ⟨c, L, Hs⟩ f) (by
      rw [HF.out]
      refine ⟨a2, k2, ta', tk', h1, ?_, h2, ?_, ?_⟩
      ·exact (hL2.off h3 (fun y hy => by
        rcases List.mem_cons.1 hy with rfl | hy
        ·exact Off.li hL2 _ (.inl (by omega))
        ·exact Off.li hL2 _ (.inl (by have := hin y hy; omega)))).mono (by omega)
      ·exact Off.li hL2 _ (.inl (by omega))
      ·intro y hy
       rcases h4 y hy with h | h
       ·exact Off.li hL2 _ (.inl (by have := hin y h; omega))
       ·exact Off.li hL2 _ (.inr h)) HS.1, (hB.mono (by omega)).trans ((kP.below1 (Nat.le_refl _) (by omega)).trans (h3.below (fun y hy => by
        rcases List.mem_cons.1 hy with rfl | hy
        ·exact Nat.le_refl _
        ·have := hin y hy; omega) (by omega)))⟩
    ·rw [if_pos (by rfl)]
     refine wp_load_part 60 _ rfl (o := 31) bP rfl (row8 c.count) (un_count _ _) Tryz.underlying60 rfl sizeCt ?_
     refine hK.out _ _ hHeld (fun hHeld => ?_)
     clear hK K 
     try simp only [yA, yB, yC, Act.put, yD, yE, yF]
     refine wpAnyH_ready (rs := [6]) (by kernel_rfl) (by simp) ?_
     refine AllReadyH.cons rfl (fun K hK => ?_) (AllReadyH.nil)
     rw [if_pos (by rfl)]
     refine wp_load_cell 73 _ rfl (.slice c.ka L.length c.kc) rfl ((bP.cell 39 (.slice c.ka c.kn c.kc) rfl).trans (by rw [hn])) Tryz.underlying73 rfl ?_
     refine hK.out _ _ hHeld (fun hHeld => ?_)
     clear hK K 
     try simp only [yA, yB, yC, Act.put, yD, yE, yF]
     refine wpAnyH_ready (rs := [18]) (by kernel_rfl) (by simp) ?_
     refine AllReadyH.cons rfl (fun K hK => ?_) (AllReadyH.nil)
     go_simp
     go_wp2_with (refine (take_yes L c.ka c.kc c.count c.mem x hc hl htk _ (hL.mono (Nat.zero_le _))).mono ?_; rintro r u8 ⟨⟨a2, k2, rfl, hL2⟩, hb⟩)
     replace bP := bP.below hb
     replace hG := hG.below hb
     replace hB := hB.trans (hb.mono hB.size)
     have hPv := bP.lt
     refine hK.out _ _ ⟨⟨_, _, _, _, bP⟩, hHeld.2.below hb⟩ (fun hHeld => ?_)
     clear hK K hL
     refine tkH 19 (v := ?v115) rfl (by kernel_rfl) (fun _ _ _ h => h) (Or.inl ⟨by rfl, ?hy115⟩) hHeld ?_
     case hy115 => (intro w hSw; clear hSw; go_simp; try with_reducible rfl)
     try simp only [yA, yB, yC, Act.put, yD, yE, yF]
     refine tkH 20 (v := ?v116) rfl (by kernel_rfl) (fun _ _ _ h => h) (Or.inl ⟨by rfl, ?hy116⟩) hHeld ?_
     case hy116 => (intro w hSw; clear hSw; go_simp; try with_reducible rfl)
     try simp only [yA, yB, yC, Act.put, yD, yE, yF]
     refine tkH 21 (v := ?v117) rfl (by kernel_rfl) (fun _ _ _ h => h) (Or.inl ⟨by rfl, ?hy117⟩) hHeld ?_
     case hy117 => (intro w hSw; clear hSw; go_simp; try with_reducible rfl)
     try simp only [yA, yB, yC, Act.put, yD, yE, yF]
     refine tkH 22 (v := ?v118) rfl (by kernel_rfl) (fun _ _ _ h => h) (Or.inl ⟨by rfl, ?hy118⟩) hHeld ?_
     case hy118 => (intro w hSw; clear hSw; go_simp; try with_reducible rfl)
     try simp only [yA, yB, yC, Act.put, yD, yE, yF]
     refine tkH 23 (v := ?v119) rfl (by kernel_rfl) (fun _ _ _ h => h) (Or.inl ⟨by rfl, ?hy119⟩) hHeld ?_
     case hy119 => (intro w hSw; clear hSw; go_simp; try with_reducible rfl)
     try simp only [yA, yB, yC, Act.put, yD, yE, yF]
     refine tkH 24 (v := ?v120) rfl (by kernel_rfl) (fun _ _ _ h => h) (Or.inl ⟨by rfl, ?hy120⟩) hHeld ?_
     case hy120 => (intro w hSw; clear hSw; go_simp; try with_reducible rfl)
     try simp only [yA, yB, yC, Act.put, yD, yE, yF]
     refine tkH 25 (v := ?v121) rfl (by kernel_rfl) (fun _ _ _ h => h) (Or.inl ⟨by rfl, ?hy121⟩) hHeld ?_
     case hy121 => (intro w hSw; clear hSw; go_simp; try with_reducible rfl)
     try simp only [yA, yB, yC, Act.put, yD, yE, yF]
     refine wpAnyH_ready (rs := [26]) (by kernel_rfl) (by simp) ?_
     refine AllReadyH.cons rfl (fun K hK => ?_) (AllReadyH.nil)
     rw [if_pos (by rfl)]
     refine wp_store_one 73 _ _ rfl (off := 39) (.slice a2 (takeL L x).length k2) bP rfl rfl rfl rfl sizeSl (by rw [unc_size]; decide) ?_
     intro u9 hn9 hk9
     rw [unc_set _ _ _ 39 _ (Co.s_kept c a2 (takeL L x).length k2) (by decide)] at hn9
     replace bP := hn9
     have kP := hk9
     replace hG := hG.kp hk9 (by simp)
     replace hL2 := hL2.off hk9 (fun x hx => by simp at hx; subst hx; exact Off.li hL2 _ (.inl (by omega)))
     refine hK.out _ _ ⟨⟨_, _, _, _, bP⟩, hHeld.2.kp1 hk9 (by omega)⟩ (fun hHeld => ?_)
     clear hK K hn9 hk9
     try simp only [yA, yB, yC, Act.put, yD, yE, yF]
     refine tkH 27 (v := ?v122) rfl (by kernel_rfl) (fun _ _ _ h => h) (Or.inl ⟨by rfl, ?hy122⟩) hHeld ?_
     case hy122 => (intro w hSw; clear hSw; go_simp; try with_reducible rfl)
     try simp only [yA, yB, yC, Act.put, yD, yE, yF]
     refine tkH 28 (v := ?v123) rfl (by kernel_rfl) (fun _ _ _ h => h) (Or.inl ⟨by rfl, ?hy123⟩) hHeld ?_
     case hy123 => (intro w hSw; clear hSw; go_simp; try with_reducible rfl)
     try simp only [yA, yB, yC, Act.put, yD, yE, yF]
     refine tkH 29 (v := ?v124) rfl (by kernel_rfl) (fun _ _ _ h => h) (Or.inl ⟨by rfl, ?hy124⟩) hHeld ?_
     case hy124 => (intro w hSw; clear hSw; go_simp; try with_reducible rfl)
     try simp only [yA, yB, yC, Act.put, yD, yE, yF]
     refine wpAnyH_ready (rs := [30]) (by kernel_rfl) (by simp) ?_
     refine AllReadyH.cons rfl (fun K hK => ?_) (AllReadyH.nil)
     rw [if_pos (by rfl)]
     refine wp_store_part 60 _ _ rfl (off := 31) (cells := (mbc (takeC c.count x))) bP rfl rfl sizeCt (show 31 + 8 ≤ 190 by decide) (mbc_one _) ?_
     intro u10 hn9 hk9
     rw [unc_put _ _ _ 31 _ (Co.s_count _ (takeC c.count x)) (show 31 + 8 ≤ 189 by decide)] at hn9
     replace bP := hn9
     replace kP := kP.trans (hk9.mono (fun i hi => by simp at hi; simp [hi]))
     replace hG := hG.kp hk9 (by simp)
     replace hL2 := hL2.off hk9 (fun x hx => by simp at hx; subst hx; exact Off.li hL2 _ (.inl (by omega)))
     refine hK.out _ _ ⟨⟨_, _, _, _, bP⟩, hHeld.2.kp1 hk9 (by omega)⟩ (fun hHeld => ?_)
     clear hK K hn9 hk9
     try simp only [yA, yB, yC, Act.put, yD, yE, yF]
     refine wpAnyH_done (by kernel_rfl) ?_ _
     have y1 := hHeld.2
     clear hHeld
     go_upto_region 6 with fail
     go_wp2_with (refine load_blk rfl 53 _ rfl y1 rfl Tryz.underlying53 rfl sizeKt ?_)
     refine (tell_ok P _ ta tk Hs x ht _ bP hG).mono ?_
     rintro r w9 ⟨rfl, ta', tk', h1, h2, h3, h4⟩
     go_wp2_with fail
     go_ret
     have hkz := kP.size
     exact ⟨rfl, Uv.sim (s := sendS ⟨c, L, Hs⟩ f) (by
      rw [HF.out]
      refine ⟨a2, k2, ta', tk', h1, ?_, h2, ?_, ?_⟩
      ·exact (hL2.off h3 (fun y hy => by
        rcases List.mem_cons.1 hy with rfl | hy
        ·exact Off.li hL2 _ (.inl (by omega))
        ·exact Off.li hL2 _ (.inl (by have := hin y hy; omega)))).mono (by omega)
      ·exact Off.li hL2 _ (.inl (by omega))
      ·intro y hy
       rcases h4 y hy with h | h
       ·exact Off.li hL2 _ (.inl (by have := hin y h; omega))
       ·exact Off.li hL2 _ (.inr h)) HS.1, (hB.mono (by omega)).trans ((kP.below1 (Nat.le_refl _) (by omega)).trans (h3.below (fun y hy => by
        rcases List.mem_cons.1 hy with rfl | hy
        ·exact Nat.le_refl _
        ·have := hin y hy; omega) (by omega)))⟩
end Go.Proofs.YthgfpdidilolgaaGreat
