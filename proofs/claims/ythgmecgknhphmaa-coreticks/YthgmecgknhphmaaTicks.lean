/-
  What any core does at a tick, and its packet, is as the document says: the law CoreTicks returns true for every input.
  No condition beyond the form's own.
-/
import Derived.Test.YthgmecgknhphmaaRows
import Derived.Test.YthgmecgknhphmaaCeX
import Derived.Test.YthgmecgknhphmaaCfI
import Derived.Test.YthgmecgknhphmaaCfT
import Derived.Test.YthgmecgknhphmaaCfP
import Derived.WalkKit
import Derived.ProofKit
import Derived.OpenShut
import Derived.ShutString
import Derived.SizedLaws
import Derived.ChangeOld
import Derived.Below
namespace Go.Proofs.Ythgmecgknhphmaa.coreTicks
open Go.Sort Go.ChangeShapes Go.WideShapes Go.ChangeAt Go.RowKit
open Go.ChangeMaps (open_string shut_string)
set_option linter.unusedVariables false
set_option maxRecDepth 10000

theorem own : ownKnob Try.prog.godebug = none := by kernel_rfl
theorem length_bytes (s : ByteArray) : s.data.toList.length = s.size := by rw [Array.length_toList]; rfl

set_option maxHeartbeats 16000000 in
theorem walk (c : Co) (L : List Kt) (kf : c.fit) (hn : c.kn = L.length) (hl : L.length * 352 ≤ 140737488351232) (f : Nat → En) (w : World) (lS : Li Kt.vals 0 c.ka L w) :
    Calls Try.prog 3 #[.agg (coc c), .agg (frc f)] w fun e w' => e = .returned (.bool true) ∧ Below w.heap.size w w' := by
  have pF := rfits_ok c
  obtain ⟨Q, hQ⟩ : ∃ Q, fitsB c = Q := ⟨_, rfl⟩
  rw [hQ] at pF
  obtain ⟨a0, a1, hB⟩ := two_blk (T0 := 35) (T1 := 41) (C0 := coc c) (C1 := frc f) (w := w) rfl
  go_enter Try.func3, Try.ntmps3
  go_upto_region 1 with fail
  generalize (w.alloc (Obj.cells (coc c) 35)).alloc (Obj.cells (frc f) 41) = W at a0 a1 hB ⊢
  obtain ⟨q, hq⟩ : ∃ q, w.heap.size = q := ⟨_, rfl⟩
  rw [hq] at a0 a1 ⊢
  go_wp2_with fail
  refine (fixed_ok _).mono ?_
  rintro r w1 ⟨rfl, hb⟩
  replace a0 := a0.below hb
  replace a1 := a1.below hb
  replace hB := hB.trans (hb.mono hB.size)
  clear hb 
  go_wp2_with (refine load_want rfl 35 _ rfl a0 rfl Try.underlying35 rfl sizeCo ?_)
  refine (pF _).mono ?_
  rintro r w2 ⟨rfl, hb⟩
  replace a0 := a0.below hb
  replace a1 := a1.below hb
  replace hB := hB.trans (hb.mono hB.size)
  clear hb pF
  cases Q with
  | false =>
    clear a0 a1
    go_wp2_with fail
    refine (fixed_ok _).mono ?_
    rintro r w9 ⟨rfl, hb⟩
    replace hB := hB.trans (hb.mono hB.size)
    go_wp2_with fail
    go_ret
    exact ⟨rfl, hB⟩
  | true =>
    have hQ' := of_decide_eq_true hQ
    obtain ⟨s, hs0⟩ : ∃ s : Nat, c.self = (s : Int) := ⟨c.self.toNat, by omega⟩
    have hs : s < 8 := by omega
    have pt := fun u h => ctick_ok c L f s hs hs0 kf.beat.now kf.epoch kf.count hn hl u h
    have pu := fun u h => dtick_ok c L f s hs hs0 hQ'.2.2 kf hn (by omega) u h
    have pk := fun u h => packet_ok c L s hs hs0 kf.beat.now kf.count hn (by omega) u h
    have pd := fun u h => dpacket_ok c L s hs hs0 kf.beat.now kf.count hn (by omega) u h
    have pg := gathers_ok c
    have hlen := tickS_len c L f
    obtain ⟨S, hSS⟩ : ∃ S, tickS c L f = S := ⟨_, rfl⟩
    obtain ⟨D, hDD⟩ : ∃ D, tickD c L = D := ⟨_, rfl⟩
    obtain ⟨P, hP⟩ : ∃ P, packW c L = P := ⟨_, rfl⟩
    obtain ⟨t, ht⟩ : ∃ t, Idn.same c.pr c.conf = t := ⟨_, rfl⟩
    have hg : gathB c = !t := by rw [gathB, ht]
    have kI : ∀ w, (binOp .neq 27 (.agg c.pr.vals.toArray) (.agg c.conf.vals.toArray)).run Try.prog w = .ok (.bool (!t)) w := neqIdn _ _ t ht
    rw [hg] at pg
    obtain ⟨g, hgg⟩ : ∃ g, (!t) = g := ⟨_, rfl⟩
    rw [hgg] at kI pg
    have kg : (g == g) = true := by simp
    have kD : (D == D) = true := by simp
    have kP := eqlPw P
    rw [hSS] at pt pu hlen
    rw [hDD] at pt pu
    rw [hP] at pk pd
    have hSl : S.L.length ≤ 9223372036854775807 := by omega
    have hTl : S.t.length ≤ 9223372036854775807 := by omega
    clear hlen hSS hDD hP ht hg hgg hQ hQ' hs0 kf
    go_upto_region 3 with fail
    go_wp2_with (first | refine load_blk rfl 35 _ rfl a0 rfl Try.underlying35 rfl sizeCo ?_ | refine load_blk rfl 41 _ rfl a1 rfl Try.underlying41 rfl sizeFr ?_)
    refine (pt _ (lS.below hB)).mono ?_
    rintro r w3 ⟨⟨a3, k3, ta, tk, rfl, l3, m3⟩, hb⟩
    clear pt
    replace l3 := l3.mono (Nat.zero_le _)
    replace m3 := m3.mono (Nat.zero_le _)
    replace a0 := a0.below hb
    replace a1 := a1.below hb
    replace hB := hB.trans (hb.mono hB.size)
    clear hb 
    obtain ⟨d, hd⟩ : ∃ d, Hid (S.c.kp a3 S.L.length k3 = d) := ⟨_, rfl⟩
    rw [hd.out]
    have hb := below_box w3 (.cells (coc d) 35)
    have x0 := blk_new w3 (coc d) 35
    have h_x := a0.lt
    go_upto_region 4 with (go_big_may; first | refine alloc_zero zeroCo rfl rfl ?_ | refine store_new rfl 35 _ _ rfl (cells := (coc d)) rfl rfl sizeCo rfl (coc_one _) ?_)
    try simp only [Act.put, List.setIfInBounds_toArray, List.set_cons_zero, List.set_cons_succ]
    generalize w3.alloc (Obj.cells (coc d) 35) = W3 at x0 hb ⊢
    replace a0 := a0.below hb
    replace a1 := a1.below hb
    replace l3 := l3.below hb
    replace m3 := m3.below hb
    replace hB := hB.trans (hb.mono hB.size)
    clear hb 
    generalize w3.heap.size = x at x0 h_x ⊢
    go_wp2_with (first | refine load_blk rfl 35 _ rfl a0 rfl Try.underlying35 rfl sizeCo ?_ | refine load_blk rfl 41 _ rfl a1 rfl Try.underlying41 rfl sizeFr ?_)
    refine (pu _ (lS.below hB)).mono ?_
    rintro r w4 ⟨⟨a4, k4, tb, tj, rfl, l4, m4⟩, hb⟩
    clear pu
    replace a0 := a0.below hb
    replace a1 := a1.below hb
    replace x0 := x0.below hb
    replace l3 := l3.below hb
    replace m3 := m3.below hb
    replace hB := hB.trans (hb.mono hB.size)
    clear hb 
    obtain ⟨d2, hd2⟩ : ∃ d, Hid (S.c.kp a4 S.L.length k4 = d) := ⟨_, rfl⟩
    rw [hd2.out]
    have hb := below_box w4 (.cells (coc d2) 35)
    have y0 := blk_new w4 (coc d2) 35
    have h_y := x0.lt
    go_upto_region 5 with (go_big_may; first | refine alloc_zero zeroCo rfl rfl ?_ | refine store_new rfl 35 _ _ rfl (cells := (coc d2)) rfl rfl sizeCo rfl (coc_one _) ?_)
    try simp only [Act.put, List.setIfInBounds_toArray, List.set_cons_zero, List.set_cons_succ]
    generalize w4.alloc (Obj.cells (coc d2) 35) = W4 at y0 hb ⊢
    replace a0 := a0.below hb
    replace a1 := a1.below hb
    replace x0 := x0.below hb
    replace l3 := l3.below hb
    replace m3 := m3.below hb
    replace l4 := l4.below hb
    replace m4 := m4.below hb
    replace hB := hB.trans (hb.mono hB.size)
    clear hb 
    generalize w4.heap.size = y at y0 h_y ⊢
    have lk := lS.below hB
    have pI := fun u h1 h2 => ris_ok S.c S.L a3 a4 k3 k4 hSl u h1 h2
    rw [hd.out, hd2.out] at pI
    have pT := fun u h1 h2 => rtold_ok S.t ta tb tk tj hTl u h1 h2
    clear hd hd2 hSl hTl a1
    refine wp_region_held_drew (S := fun w' => Below W4.heap.size W4 w') (by kernel_rfl) (Below.refl _ _).drew (fun hHeld => ?_)
    refine' wpAnyH_take (i := 0) (v := _) rfl (by kernel_rfl) (by kernel_rfl) (by kernel_rfl) (fun _ _ _ h => h) (yieldsIf_load_mid (by rfl) _ _ rfl x 0 rfl (col d) _ ?hS1 Try.underlying35 rfl sizeCo) hHeld ?rest1
    case hS1 => exact fun w h => (x0.below h).whole
    try simp only [List.getElem_toArray]
    try simp only [List.getElem_cons_succ]
    try simp only [List.getElem_cons_zero]
    try simp only [Act.put]
    try simp only [List.setIfInBounds_toArray]
    try simp only [List.set_cons_succ]
    try simp only [List.set_cons_zero]
    refine' wpAnyH_take (i := 1) (v := _) rfl (by kernel_rfl) (by kernel_rfl) (by kernel_rfl) (fun _ _ _ h => h) (yieldsIf_load_mid (by rfl) _ _ rfl y 0 rfl (col d2) _ ?hS2 Try.underlying35 rfl sizeCo) hHeld ?rest2
    case hS2 => exact fun w h => (y0.below h).whole
    try simp only [List.getElem_toArray]
    try simp only [List.getElem_cons_succ]
    try simp only [List.getElem_cons_zero]
    try simp only [Act.put]
    try simp only [List.setIfInBounds_toArray]
    try simp only [List.set_cons_succ]
    try simp only [List.set_cons_zero]
    refine wpAnyH_ready (rs := [2]) (by kernel_rfl) (by simp) ?_
    refine AllReadyH.cons rfl (fun K hK => ?_) (AllReadyH.nil)
    go_simp
    go_wp2_with (refine (pI _ (l3.below hHeld) (l4.below hHeld)).mono ?_; rintro r u1 ⟨rfl, hb⟩)
    refine hK.out _ _ (hHeld.below hb) (fun hHeld => ?_)
    clear hK K hb 
    refine wpAnyH_take (i := 3) (v := ?v3) rfl (by kernel_rfl) (by kernel_rfl) (by kernel_rfl) (fun _ _ _ h => h) (Or.inl ⟨by rfl, ?hy3⟩) hHeld ?rest3
    case hy3 => (intro w hSw; clear hSw; go_simp; try with_reducible rfl)
    try simp only [List.getElem_toArray]
    try simp only [List.getElem_cons_succ]
    try simp only [List.getElem_cons_zero]
    try simp only [Act.put]
    try simp only [List.setIfInBounds_toArray]
    try simp only [List.set_cons_succ]
    try simp only [List.set_cons_zero]
    refine wpAnyH_take (i := 4) (v := ?v4) rfl (by kernel_rfl) (by kernel_rfl) (by kernel_rfl) (fun _ _ _ h => h) (Or.inl ⟨by rfl, ?hy4⟩) hHeld ?rest4
    case hy4 => (intro w hSw; clear hSw; go_simp; try with_reducible rfl)
    try simp only [List.getElem_toArray]
    try simp only [List.getElem_cons_succ]
    try simp only [List.getElem_cons_zero]
    try simp only [Act.put]
    try simp only [List.setIfInBounds_toArray]
    try simp only [List.set_cons_succ]
    try simp only [List.set_cons_zero]
    refine wpAnyH_take (i := 5) (v := ?v5) rfl (by kernel_rfl) (by kernel_rfl) (by kernel_rfl) (fun _ _ _ h => h) (Or.inl ⟨by rfl, ?hy5⟩) hHeld ?rest5
    case hy5 => (intro w hSw; clear hSw; go_simp; try with_reducible rfl)
    try simp only [List.getElem_toArray]
    try simp only [List.getElem_cons_succ]
    try simp only [List.getElem_cons_zero]
    try simp only [Act.put]
    try simp only [List.setIfInBounds_toArray]
    try simp only [List.set_cons_succ]
    try simp only [List.set_cons_zero]
    refine wpAnyH_take (i := 6) (v := ?v6) rfl (by kernel_rfl) (by kernel_rfl) (by kernel_rfl) (fun _ _ _ h => h) (Or.inl ⟨by rfl, ?hy6⟩) hHeld ?rest6
    case hy6 => (intro w hSw; clear hSw; go_simp; try with_reducible rfl)
    try simp only [List.getElem_toArray]
    try simp only [List.getElem_cons_succ]
    try simp only [List.getElem_cons_zero]
    try simp only [Act.put]
    try simp only [List.setIfInBounds_toArray]
    try simp only [List.set_cons_succ]
    try simp only [List.set_cons_zero]
    refine wpAnyH_take (i := 7) (v := ?v7) rfl (by kernel_rfl) (by kernel_rfl) (by kernel_rfl) (fun _ _ _ h => h) (Or.inl ⟨by rfl, ?hy7⟩) hHeld ?rest7
    case hy7 => (intro w hSw; clear hSw; go_simp; try with_reducible rfl)
    try simp only [List.getElem_toArray]
    try simp only [List.getElem_cons_succ]
    try simp only [List.getElem_cons_zero]
    try simp only [Act.put]
    try simp only [List.setIfInBounds_toArray]
    try simp only [List.set_cons_succ]
    try simp only [List.set_cons_zero]
    refine wpAnyH_take (i := 8) (v := ?v8) rfl (by kernel_rfl) (by kernel_rfl) (by kernel_rfl) (fun _ _ _ h => h) (Or.inl ⟨by rfl, ?hy8⟩) hHeld ?rest8
    case hy8 => (intro w hSw; clear hSw; go_simp; try with_reducible rfl)
    try simp only [List.getElem_toArray]
    try simp only [List.getElem_cons_succ]
    try simp only [List.getElem_cons_zero]
    try simp only [Act.put]
    try simp only [List.setIfInBounds_toArray]
    try simp only [List.set_cons_succ]
    try simp only [List.set_cons_zero]
    refine wpAnyH_take (i := 9) (v := ?v9) rfl (by kernel_rfl) (by kernel_rfl) (by kernel_rfl) (fun _ _ _ h => h) (Or.inl ⟨by rfl, ?hy9⟩) hHeld ?rest9
    case hy9 => (intro w hSw; clear hSw; go_simp; try with_reducible rfl)
    try simp only [List.getElem_toArray]
    try simp only [List.getElem_cons_succ]
    try simp only [List.getElem_cons_zero]
    try simp only [Act.put]
    try simp only [List.setIfInBounds_toArray]
    try simp only [List.set_cons_succ]
    try simp only [List.set_cons_zero]
    refine wpAnyH_take (i := 10) (v := ?v10) rfl (by kernel_rfl) (by kernel_rfl) (by kernel_rfl) (fun _ _ _ h => h) (Or.inl ⟨by rfl, ?hy10⟩) hHeld ?rest10
    case hy10 => (intro w hSw; clear hSw; go_simp; try with_reducible rfl)
    try simp only [List.getElem_toArray]
    try simp only [List.getElem_cons_succ]
    try simp only [List.getElem_cons_zero]
    try simp only [Act.put]
    try simp only [List.setIfInBounds_toArray]
    try simp only [List.set_cons_succ]
    try simp only [List.set_cons_zero]
    refine wpAnyH_ready (rs := [11]) (by kernel_rfl) (by simp) ?_
    refine AllReadyH.cons rfl (fun K hK => ?_) (AllReadyH.nil)
    go_simp
    go_wp2_with (refine (pT _ (m3.below hHeld) (m4.below hHeld)).mono ?_; rintro r u2 ⟨rfl, hb⟩)
    refine hK.out _ _ (hHeld.below hb) (fun hHeld => ?_)
    clear hK K hb 
    refine wpAnyH_take (i := 12) (v := ?v11) rfl (by kernel_rfl) (by kernel_rfl) (by kernel_rfl) (fun _ _ _ h => h) (Or.inl ⟨by rfl, ?hy11⟩) hHeld ?rest11
    case hy11 => (intro w hSw; clear hSw; go_simp; try with_reducible rfl)
    try simp only [List.getElem_toArray]
    try simp only [List.getElem_cons_succ]
    try simp only [List.getElem_cons_zero]
    try simp only [Act.put]
    try simp only [List.setIfInBounds_toArray]
    try simp only [List.set_cons_succ]
    try simp only [List.set_cons_zero]
    refine wpAnyH_take (i := 13) (v := ?v12) rfl (by kernel_rfl) (by kernel_rfl) (by kernel_rfl) (fun _ _ _ h => h) (Or.inl ⟨by rfl, ?hy12⟩) hHeld ?rest12
    case hy12 => (intro w hSw; clear hSw; go_simp; try with_reducible rfl)
    try simp only [List.getElem_toArray]
    try simp only [List.getElem_cons_succ]
    try simp only [List.getElem_cons_zero]
    try simp only [Act.put]
    try simp only [List.setIfInBounds_toArray]
    try simp only [List.set_cons_succ]
    try simp only [List.set_cons_zero]
    refine' wpAnyH_take (i := 14) (v := _) rfl (by kernel_rfl) (by kernel_rfl) (by kernel_rfl) (fun _ _ _ h => h) (yieldsIf_load_mid (by rfl) _ _ rfl q 0 rfl (col c) _ ?hS13 Try.underlying35 rfl sizeCo) hHeld ?rest13
    case hS13 => exact fun w h => (a0.below h).whole
    try simp only [List.getElem_toArray]
    try simp only [List.getElem_cons_succ]
    try simp only [List.getElem_cons_zero]
    try simp only [Act.put]
    try simp only [List.setIfInBounds_toArray]
    try simp only [List.set_cons_succ]
    try simp only [List.set_cons_zero]
    refine' wpAnyH_take (i := 16) (v := _) rfl (by kernel_rfl) (by kernel_rfl) (by kernel_rfl) (fun _ _ _ h => h) (yieldsIf_load_mid (by rfl) _ _ rfl q 0 rfl (col c) _ ?hS14 Try.underlying35 rfl sizeCo) hHeld ?rest14
    case hS14 => exact fun w h => (a0.below h).whole
    try simp only [List.getElem_toArray]
    try simp only [List.getElem_cons_succ]
    try simp only [List.getElem_cons_zero]
    try simp only [Act.put]
    try simp only [List.setIfInBounds_toArray]
    try simp only [List.set_cons_succ]
    try simp only [List.set_cons_zero]
    refine wpAnyH_ready (rs := [15]) (by kernel_rfl) (by simp) ?_
    refine AllReadyH.cons rfl (fun K hK => ?_) (AllReadyH.nil)
    go_simp
    go_wp2_with (refine (pk _ (lk.below hHeld)).mono ?_; rintro r u3 ⟨rfl, hb⟩)
    refine hK.out _ _ (hHeld.below hb) (fun hHeld => ?_)
    clear hK K hb 
    refine wpAnyH_ready (rs := [17]) (by kernel_rfl) (by simp) ?_
    refine AllReadyH.cons rfl (fun K hK => ?_) (AllReadyH.nil)
    go_simp
    go_wp2_with (refine (pd _ (lk.below hHeld)).mono ?_; rintro r u4 ⟨rfl, hb⟩)
    refine hK.out _ _ (hHeld.below hb) (fun hHeld => ?_)
    clear hK K hb 
    refine wpAnyH_take (i := 18) (v := ?v15) rfl (by kernel_rfl) (by kernel_rfl) (by kernel_rfl) (fun _ _ _ h => h) (Or.inl ⟨by rfl, ?hy15⟩) hHeld ?rest15
    case hy15 => (intro w hSw; clear hSw; go_simp; try with_reducible rfl)
    try simp only [List.getElem_toArray]
    try simp only [List.getElem_cons_succ]
    try simp only [List.getElem_cons_zero]
    try simp only [Act.put]
    try simp only [List.setIfInBounds_toArray]
    try simp only [List.set_cons_succ]
    try simp only [List.set_cons_zero]
    refine wpAnyH_take (i := 19) (v := ?v16) rfl (by kernel_rfl) (by kernel_rfl) (by kernel_rfl) (fun _ _ _ h => h) (Or.inl ⟨by rfl, ?hy16⟩) hHeld ?rest16
    case hy16 => (intro w hSw; clear hSw; go_simp; try with_reducible rfl)
    try simp only [List.getElem_toArray]
    try simp only [List.getElem_cons_succ]
    try simp only [List.getElem_cons_zero]
    try simp only [Act.put]
    try simp only [List.setIfInBounds_toArray]
    try simp only [List.set_cons_succ]
    try simp only [List.set_cons_zero]
    refine wpAnyH_take (i := 20) (v := ?v17) rfl (by kernel_rfl) (by kernel_rfl) (by kernel_rfl) (fun _ _ _ h => h) (Or.inl ⟨by rfl, ?hy17⟩) hHeld ?rest17
    case hy17 => (intro w hSw; clear hSw; go_simp; try with_reducible rfl)
    try simp only [List.getElem_toArray]
    try simp only [List.getElem_cons_succ]
    try simp only [List.getElem_cons_zero]
    try simp only [Act.put]
    try simp only [List.setIfInBounds_toArray]
    try simp only [List.set_cons_succ]
    try simp only [List.set_cons_zero]
    refine' wpAnyH_take (i := 21) (v := _) rfl (by kernel_rfl) (by kernel_rfl) (by kernel_rfl) (fun _ _ _ h => h) (yieldsIf_load_mid (by rfl) _ _ rfl q 0 rfl (col c) _ ?hS18 Try.underlying35 rfl sizeCo) hHeld ?rest18
    case hS18 => exact fun w h => (a0.below h).whole
    try simp only [List.getElem_toArray]
    try simp only [List.getElem_cons_succ]
    try simp only [List.getElem_cons_zero]
    try simp only [Act.put]
    try simp only [List.setIfInBounds_toArray]
    try simp only [List.set_cons_succ]
    try simp only [List.set_cons_zero]
    refine wpAnyH_take (i := 23) (v := ?v19) rfl (by kernel_rfl) (by kernel_rfl) (by kernel_rfl) (fun _ _ _ h => h) (Or.inl ⟨by rfl, ?hy19⟩) hHeld ?rest19
    case hy19 => (intro w hSw; clear hSw; go_simp; try with_reducible rfl)
    try simp only [List.getElem_toArray]
    try simp only [List.getElem_cons_succ]
    try simp only [List.getElem_cons_zero]
    try simp only [Act.put]
    try simp only [List.setIfInBounds_toArray]
    try simp only [List.set_cons_succ]
    try simp only [List.set_cons_zero]
    refine' wpAnyH_take (i := 24) (v := _) rfl (by kernel_rfl) (by kernel_rfl) (by kernel_rfl) (fun _ _ _ h => h) (yieldsIf_load_mid (by rfl) _ _ rfl q 40 rfl c.pr.vals _ ?hS20 Try.underlying27 rfl sizeIdn) hHeld ?rest20
    case hS20 => exact fun w h => (a0.below h).range 40 _ c.p_pr
    try simp only [List.getElem_toArray]
    try simp only [List.getElem_cons_succ]
    try simp only [List.getElem_cons_zero]
    try simp only [Act.put]
    try simp only [List.setIfInBounds_toArray]
    try simp only [List.set_cons_succ]
    try simp only [List.set_cons_zero]
    refine wpAnyH_take (i := 25) (v := ?v21) rfl (by kernel_rfl) (by kernel_rfl) (by kernel_rfl) (fun _ _ _ h => h) (Or.inl ⟨by rfl, ?hy21⟩) hHeld ?rest21
    case hy21 => (intro w hSw; clear hSw; go_simp; try with_reducible rfl)
    try simp only [List.getElem_toArray]
    try simp only [List.getElem_cons_succ]
    try simp only [List.getElem_cons_zero]
    try simp only [Act.put]
    try simp only [List.setIfInBounds_toArray]
    try simp only [List.set_cons_succ]
    try simp only [List.set_cons_zero]
    refine' wpAnyH_take (i := 26) (v := _) rfl (by kernel_rfl) (by kernel_rfl) (by kernel_rfl) (fun _ _ _ h => h) (yieldsIf_load_mid (by rfl) _ _ rfl q 20 rfl c.conf.vals _ ?hS22 Try.underlying27 rfl sizeIdn) hHeld ?rest22
    case hS22 => exact fun w h => (a0.below h).range 20 _ c.p_conf
    try simp only [List.getElem_toArray]
    try simp only [List.getElem_cons_succ]
    try simp only [List.getElem_cons_zero]
    try simp only [Act.put]
    try simp only [List.setIfInBounds_toArray]
    try simp only [List.set_cons_succ]
    try simp only [List.set_cons_zero]
    refine wpAnyH_take (i := 27) (v := ?v23) rfl (by kernel_rfl) (by kernel_rfl) (by kernel_rfl) (fun _ _ _ h => h) (Or.inl ⟨by rfl, ?hy23⟩) hHeld ?rest23
    case hy23 => (intro w hSw; clear hSw; go_simp; try with_reducible rfl)
    try simp only [List.getElem_toArray]
    try simp only [List.getElem_cons_succ]
    try simp only [List.getElem_cons_zero]
    try simp only [Act.put]
    try simp only [List.setIfInBounds_toArray]
    try simp only [List.set_cons_succ]
    try simp only [List.set_cons_zero]
    refine wpAnyH_ready (rs := [22]) (by kernel_rfl) (by simp) ?_
    refine AllReadyH.cons rfl (fun K hK => ?_) (AllReadyH.nil)
    go_simp
    go_wp2_with (refine (pg _).mono ?_; rintro r u5 ⟨rfl, hb⟩)
    refine hK.out _ _ (hHeld.below hb) (fun hHeld => ?_)
    clear hK K hb 
    refine wpAnyH_take (i := 28) (v := ?v24) rfl (by kernel_rfl) (by kernel_rfl) (by kernel_rfl) (fun _ _ _ h => h) (Or.inl ⟨by rfl, ?hy24⟩) hHeld ?rest24
    case hy24 => (intro w hSw; clear hSw; go_simp; try with_reducible rfl)
    try simp only [List.getElem_toArray]
    try simp only [List.getElem_cons_succ]
    try simp only [List.getElem_cons_zero]
    try simp only [Act.put]
    try simp only [List.setIfInBounds_toArray]
    try simp only [List.set_cons_succ]
    try simp only [List.set_cons_zero]
    refine wpAnyH_take (i := 29) (v := ?v25) rfl (by kernel_rfl) (by kernel_rfl) (by kernel_rfl) (fun _ _ _ h => h) (Or.inl ⟨by rfl, ?hy25⟩) hHeld ?rest25
    case hy25 => (intro w hSw; clear hSw; go_simp; try with_reducible rfl)
    try simp only [List.getElem_toArray]
    try simp only [List.getElem_cons_succ]
    try simp only [List.getElem_cons_zero]
    try simp only [Act.put]
    try simp only [List.setIfInBounds_toArray]
    try simp only [List.set_cons_succ]
    try simp only [List.set_cons_zero]
    refine wpAnyH_take (i := 30) (v := ?v26) rfl (by kernel_rfl) (by kernel_rfl) (by kernel_rfl) (fun _ _ _ h => h) (Or.inl ⟨by rfl, ?hy26⟩) hHeld ?rest26
    case hy26 => (intro w hSw; clear hSw; go_simp; try with_reducible rfl)
    try simp only [List.getElem_toArray]
    try simp only [List.getElem_cons_succ]
    try simp only [List.getElem_cons_zero]
    try simp only [Act.put]
    try simp only [List.setIfInBounds_toArray]
    try simp only [List.set_cons_succ]
    try simp only [List.set_cons_zero]
    refine wpAnyH_done (by kernel_rfl) ?_ _
    replace hB := hB.trans (hHeld.mono hB.size)
    go_wp2_with fail
    go_ret
    exact ⟨rfl, hB⟩

set_option maxRecDepth 100000 in
theorem lifted (os : Go.Os) (started : os.Started) (H : Type) (enc : TypeId × Value → H) :
    ReturnsInHanded {} Try.checked os 3 .any (Rows.coreTicksSpec.pre6 enc Try.prog Try.f3 Rows.coreTicksRow.domain false) (Rows.coreTicksSpec.post enc Try.prog Try.f3 false true false false) := by
  refine returnsInHanded_of_change_sized (C := Try.checked) own started (by kernel_rfl) Try.func3
    (ChangeSpec.witness6 (enc := enc) (C := Try.checked) false ⟨#[], #[.agg (coc Co.zero), .agg (frc noFr)], []⟩ 8 (by kernel_rfl) (by kernel_rfl) (by kernel_rfl) (by kernel_rfl)) ?_
  intro W base args ds gs before hval0 hW hcnd hsz0 _
  have hval : ∀ (j : Nat) t v, Try.f3.params[j]? = some t → args[j]? = some v → Value.okWide Try.prog W .any base t v := hval0
  have hsz : (DataW.weightsEach Try.prog (Try.f3.params.toList ++ Rows.coreTicksSpec.plain.varTypes Try.prog) (ds ++ gs)).all (· ≤ reachBytes) = true := hsz0
  have hW' := hW
  obtain ⟨p, q, hA0, hV, rfl, hfz, hnd⟩ := hW
  have hA : DataW.TrodAll enc Try.prog W 0 (fun _ => true) true Try.f3.params.toList args.toList ds p := hA0
  rw [Try.params3] at hA hval hsz

  obtain ⟨v0, vs0, d0, ds0, p0, q0, hargs, rfl, rfl, h0, r0⟩ := trodAll_cons hA
  obtain ⟨v1, vs1, d1, ds1, p1, q1, rfl, rfl, rfl, h1, r1⟩ := trodAll_cons r0
  obtain ⟨rfl, rfl, rfl⟩ := trodAll_nil r1
  obtain rfl : args = #[v0, v1] := by cases args; simp_all
  obtain ⟨rfl, rfl⟩ := trodVars_none hV
  obtain ⟨c0, L0, rfl, kf0, kn0, kl0, hS0⟩ := open_core (by obtain ⟨cs, h1, _⟩ := okWide_struct Try.underlying35 (hval 0 35 v0 rfl rfl); exact ⟨cs, h1⟩) (fun n hn => of_decide_eq_true (List.all_eq_true.1 hsz _ (DataW.weights_mem_each (j := 0) rfl rfl n hn))) h0
  obtain ⟨f1, rfl⟩ := open_fr (by obtain ⟨cs, h1, _⟩ := (by simpa only [Value.okWide, Try.underlying41] using hval 1 41 v1 rfl rfl : ∃ cs, v1 = .agg cs ∧ _); exact ⟨cs, h1⟩) h1
  have hA2 := hA0
  clear hA0 hval0 hsz0
  simp only [List.append_nil] at hW'
  refine (walk c0 L0 kf0 kn0 kl0 f1 W hS0).mono fun e W' ⟨he, bel⟩ => ?_
  subst he
  exact ⟨_, rfl, _, _, _, [], _, [], hW', trodAll_mk1 (shut_bool Try.underlying4 _), (stays_all laidOut bel (by kernel_rfl) hA2), rfl, bel.frame _, fun h => by cases h⟩

theorem over : Rows.coreTicksRow.holds Try.pinned (OpenSpec.ofChange Rows.coreTicksSpec) :=
  OpenClaim.holds_of_wide 3 Try.f3 rfl rfl rfl rfl rfl rfl rfl ⟨rfl, rfl, rfl, rfl, rfl⟩ rfl rfl rfl rfl rfl (by kernel_rfl) Try.func3 (by kernel_rfl)
    (of_decide_eq_true (by kernel_rfl)) (by unfold Func.isWrapper; first | (rw [if_pos (by decide +kernel)]; kernel_rfl) | (rw [if_neg (by decide +kernel)]; exact ⟨rfl, rfl⟩))
    (fun os started H enc _ => lifted os started H enc)

end Go.Proofs.Ythgmecgknhphmaa.coreTicks
namespace Go.Proofs.Ythgmecgknhphmaa

theorem coreTicks_holds : Rows.CoreTicksSaid := coreTicks.over
#print axioms coreTicks_holds

end Go.Proofs.Ythgmecgknhphmaa
