/-
  Two packets that differ in one tenant's lanes alone have bytes that differ there, and in the sum, alone: the law PacketApart returns true for every input.
  No condition beyond the form's own.
-/
import Derived.Test.YtmbddjejbmjmfaaRows
import Derived.Test.YtmbddjejbmjmfaaPkAp
import Derived.Test.YtmbddjejbmjmfaaPkIn
import Derived.Deep.RegionHeld
import Derived.WalkKit
import Derived.ProofKit
import Derived.OpenShut
import Derived.ShutString
import Derived.SizedLaws
import Derived.ChangeOld
import Derived.Below
namespace Go.Proofs.Ytmbddjejbmjmfaa.packetApart
open Go.Sort Go.ChangeShapes Go.WideShapes Go.ChangeAt Go.RowKit
open Go.ChangeMaps (open_string shut_string)
set_option linter.unusedVariables false
set_option maxRecDepth 10000

theorem own : ownKnob Try.prog.godebug = none := by kernel_rfl
theorem length_bytes (s : ByteArray) : s.data.toList.length = s.size := by rw [Array.length_toList]; rfl

theorem frc_whole (F : Nat → En) : ((frc F).extract 0 (0 + (enCells (Fr.list F)).length)).toList = enCells (Fr.list F) := by
  have h : (frc F).toList = enCells (Fr.list F) := rfl
  rw [Nat.zero_add, Array.toList_extract, h]
  simp [List.extract]

set_option maxHeartbeats 4000000 in
theorem walk_in (P : Pk) (hP : ∀ i, P.n i < 4294967296) (n : Int) (hn0 : 0 ≤ n) (hn3 : n < 3) (F : Nat → En) (w : World) : Calls Try.prog 7 #[.agg (pkc P), .int .i64 n, .agg (frc F)] w fun e w' => e = .returned (.bool true) ∧ Below w.heap.size w w' := by
  have hlane0 := fun w => rfrLane F 0 w
  have hlane1 := fun w => rfrLane F 1 w
  have hlane2 := fun w => rfrLane F 2 w
  have hwith0 := fun a c w h => rfrWith P.f0 n a (laneL F 0) c w h
  have hwith1 := fun a c w h => rfrWith P.f1 n a (laneL F 1) c w h
  have hwith2 := fun a c w h => rfrWith P.f2 n a (laneL F 2) c w h
  obtain ⟨s, ec, hE, hcs⟩ : ∃ (s : ByteArray) (ec : Int), (∀ w, Calls Try.prog 9 #[.agg (pkc P)] w fun r w' => r = .returned (.tuple #[.string s, .int .i64 ec]) ∧ Below w.heap.size w w') ∧ (ec = 52 ∨ (ec = 0 ∧ P.may = true ∧ s = P.sealed)) := by
    have h := fun w => encode_pk P hP w
    cases hm : P.may
    · rw [hm] at h; exact ⟨_, _, h, .inl rfl⟩
    · rw [hm] at h; exact ⟨_, _, h, .inr ⟨rfl, rfl, rfl⟩⟩
  obtain ⟨u, eu, hQ, hcq⟩ : ∃ (u : ByteArray) (eu : Int), (∀ w, Calls Try.prog 9 #[.agg (pkc (withLanes P n (laneL F 0) (laneL F 1) (laneL F 2)))] w fun r w' => r = .returned (.tuple #[.string u, .int .i64 eu]) ∧ Below w.heap.size w w') ∧ (eu = 52 ∨ (eu = 0 ∧ (withLanes P n (laneL F 0) (laneL F 1) (laneL F 2)).may = true ∧ u = (withLanes P n (laneL F 0) (laneL F 1) (laneL F 2)).sealed)) := by
    have h := fun w => encode_pk (withLanes P n (laneL F 0) (laneL F 1) (laneL F 2)) hP w
    cases hm : (withLanes P n (laneL F 0) (laneL F 1) (laneL F 2)).may
    · rw [hm] at h; exact ⟨_, _, h, .inl rfl⟩
    · rw [hm] at h; exact ⟨_, _, h, .inr ⟨rfl, rfl, rfl⟩⟩
  clear hP
  have d0 : ¬ n < 0 := by omega
  have d2 : ¬ 2 < n := by omega
  obtain ⟨wa, hwa⟩ : ∃ wa, w.alloc (.cells (pkc P) 35) = wa := ⟨_, rfl⟩
  have za : wa.heap.size = w.heap.size + 1 := by rw [← hwa]; simp
  obtain ⟨wb, hwb⟩ : ∃ wb, wa.alloc (.cells (frc F) 33) = wb := ⟨_, rfl⟩
  have zb : wb.heap.size = w.heap.size + 2 := by rw [← hwb]; simp [za]
  have Bb : Blk w.heap.size (pkc P) 35 wb := by rw [← hwb, ← hwa]; exact (blk_new w _ _).alloc _
  have Eb : Blk (w.heap.size + 1) (frc F) 33 wb := by rw [← za, ← hwb]; exact blk_new wa _ _
  have bb : Below w.heap.size w wb := by rw [← hwb, ← hwa]; exact (below_box w _).alloc (by simp) _
  obtain ⟨x0, hx0⟩ : ∃ x, wb.alloc (.cells (pkc P) 35) = x := ⟨_, rfl⟩
  obtain ⟨V, hV⟩ : ∃ V, wb.heap.size = V := ⟨_, rfl⟩
  have Bx0 : Blk w.heap.size (pkc P) 35 x0 := by rw [← hx0]; exact Bb.alloc _
  have Ex0 : Blk (w.heap.size + 1) (frc F) 33 x0 := by rw [← hx0]; exact Eb.alloc _
  have Vx0 : Blk V (pkc P) 35 x0 := by rw [← hx0, ← hV]; exact blk_new wb _ _
  have bx0 : Below w.heap.size w x0 := by rw [← hx0]; exact bb.alloc bb.size _
  have nBV : w.heap.size ≠ V := by omega
  have nEV : w.heap.size + 1 ≠ V := by omega
  have lV : w.heap.size ≤ V := by omega
  have HV : Hid (wb.heap.size = V) := hV
  have HX : Hid (wb.alloc (.cells (pkc P) 35) = x0) := hx0
  clear hV zb hx0
  go_enter Try.func7, Try.ntmps7
  go_wp2_with (first | refine load_blk rfl 35 _ rfl Bb rfl Try.underlying35 rfl (by rw [pkc_size]; exact size35) ?_ | refine alloc_pk rfl rfl ?_ | (refine store_new (cells := pkc P) rfl 35 _ _ rfl rfl rfl (by rw [pkc_size]; exact size35) ((pkc_size _).trans (pkc_size _).symm) (pkc_one _) ?_; rw [HX.out, HV.out]))
  refine wp_region_held_drew (S := fun w' => Blk w.heap.size (pkc P) 35 w' ∧ Blk (w.heap.size + 1) (frc F) 33 w') (by kernel_rfl) ⟨Bx0.drew, Ex0.drew⟩ (fun hHeld => ?_)
  refine wpAnyH_take (i := 0) (v := ?v0_0) rfl (by kernel_rfl) (by kernel_rfl) (by kernel_rfl) (fun _ _ _ h => h) (Or.inl ⟨by rfl, ?hy0_0⟩) hHeld ?rest0_0
  case hy0_0 => (intro w hSw; clear hSw; go_simp; try with_reducible rfl)
  try simp only [List.getElem_toArray]
  try simp only [List.getElem_cons_succ]
  try simp only [List.getElem_cons_zero]
  try simp only [Act.put]
  try simp only [List.setIfInBounds_toArray]
  try simp only [List.set_cons_succ]
  try simp only [List.set_cons_zero]
  refine' wpAnyH_take (i := 1) (v := _) rfl (by kernel_rfl) (by kernel_rfl) (by kernel_rfl) (fun _ _ _ h => h) (yieldsIf_load_mid (by rfl) _ _ rfl w.heap.size 35 rfl (enCells (Fr.list P.f0)) _ ?hS1_0 Try.underlying33 rfl (by rw [frl_length]; exact size27)) hHeld ?rest1_0
  case hS1_0 => exact fun w h => h.1.range 35 _ (part_f0 P)
  try simp only [List.getElem_toArray]
  try simp only [List.getElem_cons_succ]
  try simp only [List.getElem_cons_zero]
  try simp only [Act.put]
  try simp only [List.setIfInBounds_toArray]
  try simp only [List.set_cons_succ]
  try simp only [List.set_cons_zero]
  refine wpAnyH_take (i := 2) (v := ?v2_0) rfl (by kernel_rfl) (by kernel_rfl) (by kernel_rfl) (fun _ _ _ h => h) (Or.inl ⟨by rfl, ?hy2_0⟩) hHeld ?rest2_0
  case hy2_0 => (intro w hSw; clear hSw; go_simp; try with_reducible rfl)
  try simp only [List.getElem_toArray]
  try simp only [List.getElem_cons_succ]
  try simp only [List.getElem_cons_zero]
  try simp only [Act.put]
  try simp only [List.setIfInBounds_toArray]
  try simp only [List.set_cons_succ]
  try simp only [List.set_cons_zero]
  refine' wpAnyH_take (i := 3) (v := _) rfl (by kernel_rfl) (by kernel_rfl) (by kernel_rfl) (fun _ _ _ h => h) (yieldsIf_load_mid (by rfl) _ _ rfl (w.heap.size + 1) 0 rfl (enCells (Fr.list F)) _ ?hS3_0 Try.underlying33 rfl (by rw [frl_length]; exact size27)) hHeld ?rest3_0
  case hS3_0 => exact fun w h => h.2.range 0 _ (frc_whole F)
  try simp only [List.getElem_toArray]
  try simp only [List.getElem_cons_succ]
  try simp only [List.getElem_cons_zero]
  try simp only [Act.put]
  try simp only [List.setIfInBounds_toArray]
  try simp only [List.set_cons_succ]
  try simp only [List.set_cons_zero]
  refine wpAnyH_ready (rs := [4]) (by kernel_rfl) (by simp) ?_
  refine AllReadyH.cons rfl (fun K hK => ?_) AllReadyH.nil
  go_simp
  go_wp2_with (refine (hlane0 _).mono ?_; rintro r y4 ⟨la, lc, rfl, hsl, hc4⟩)
  have h4 : Below x0.heap.size x0 y4 := ((Below.refl _ x0).drew).trans hc4
  refine hK.out _ _ ⟨Bx0.below h4, Ex0.below h4⟩ (fun hHeld => ?_)
  clear hK K hc4
  refine wpAnyH_ready (rs := [5]) (by kernel_rfl) (by simp) ?_
  refine AllReadyH.cons rfl (fun K hK => ?_) AllReadyH.nil
  go_simp
  go_wp2_with (refine (hwith0 la lc _ hsl).mono ?_; rintro r y5 ⟨rfl, hc5⟩)
  have h5 := h4.trans (hc5.mono h4.size)
  have V5 := Vx0.below h5
  have B5 := Bx0.below h5
  have E5 := Ex0.below h5
  have b5 := bx0.trans (h5.mono bx0.size)
  refine hK.out _ _ ⟨B5, E5⟩ (fun hHeld => ?_)
  clear hK K hc5 hsl h4 h5 Bx0 Ex0 Vx0 bx0
  refine wpAnyH_take (i := 6) (v := ?v6_0) rfl (by kernel_rfl) (by kernel_rfl) (by kernel_rfl) (fun _ _ _ h => h) (Or.inl ⟨by rfl, ?hy6_0⟩) hHeld ?rest6_0
  case hy6_0 => (intro w hSw; clear hSw; go_simp; try with_reducible rfl)
  try simp only [List.getElem_toArray]
  try simp only [List.getElem_cons_succ]
  try simp only [List.getElem_cons_zero]
  try simp only [Act.put]
  try simp only [List.setIfInBounds_toArray]
  try simp only [List.set_cons_succ]
  try simp only [List.set_cons_zero]
  obtain ⟨x1, hx1⟩ : ∃ W, y5.setCells V 35 (frc (withL P.f0 n (laneL F 0))).toList = W := ⟨_, rfl⟩
  have Vx1 : Blk V (pkc (withF0 (P) (withL P.f0 n (laneL F 0)))) 35 x1 := by
    rw [← hx1]
    have h := V5.setCells (frc (withL P.f0 n (laneL F 0))).toList 35
    rw [put_f0] at h
    exact h
  have u5 : But V y5 x1 := by rw [← hx1]; exact But.setCells _ _ _ _
  have Bx1 := B5.but u5 nBV
  have Ex1 := E5.but u5 nEV
  have bx1 := b5.trans (u5.below lV b5.size)
  refine wpAnyH_ready (rs := [7]) (by kernel_rfl) (by simp) ?_
  refine AllReadyH.cons rfl (fun K hK => ?_) AllReadyH.nil
  rw [if_pos (by rfl)]
  refine wp_store_mid 33 _ _ rfl V 35 (frc (withL P.f0 n (laneL F 0))) rfl rfl (V5.there 35 _ (by rw [frc_size, pkc_size]; decide)) (by rw [frc_size]; exact size27) (frc_one _) ?_
  rw [hx1]
  refine hK.out _ _ ⟨Bx1, Ex1⟩ (fun hHeld => ?_)
  clear hK K V5 B5 E5 b5 u5 hx1 hHeld
  try simp only [List.getElem_toArray]
  try simp only [List.getElem_cons_succ]
  try simp only [List.getElem_cons_zero]
  try simp only [Act.put]
  try simp only [List.setIfInBounds_toArray]
  try simp only [List.set_cons_succ]
  try simp only [List.set_cons_zero]
  refine wpAnyH_done (by kernel_rfl) ?_ _
  clear za hwa hwb Bb Eb bb HV HX
  go_wp2_with fail
  refine wp_region_held_drew (S := fun w' => Blk w.heap.size (pkc P) 35 w' ∧ Blk (w.heap.size + 1) (frc F) 33 w') (by kernel_rfl) ⟨Bx1.drew, Ex1.drew⟩ (fun hHeld => ?_)
  refine wpAnyH_take (i := 0) (v := ?v0_1) rfl (by kernel_rfl) (by kernel_rfl) (by kernel_rfl) (fun _ _ _ h => h) (Or.inl ⟨by rfl, ?hy0_1⟩) hHeld ?rest0_1
  case hy0_1 => (intro w hSw; clear hSw; go_simp; try with_reducible rfl)
  try simp only [List.getElem_toArray]
  try simp only [List.getElem_cons_succ]
  try simp only [List.getElem_cons_zero]
  try simp only [Act.put]
  try simp only [List.setIfInBounds_toArray]
  try simp only [List.set_cons_succ]
  try simp only [List.set_cons_zero]
  refine' wpAnyH_take (i := 1) (v := _) rfl (by kernel_rfl) (by kernel_rfl) (by kernel_rfl) (fun _ _ _ h => h) (yieldsIf_load_mid (by rfl) _ _ rfl w.heap.size 71 rfl (enCells (Fr.list P.f1)) _ ?hS1_1 Try.underlying33 rfl (by rw [frl_length]; exact size27)) hHeld ?rest1_1
  case hS1_1 => exact fun w h => h.1.range 71 _ (part_f1 P)
  try simp only [List.getElem_toArray]
  try simp only [List.getElem_cons_succ]
  try simp only [List.getElem_cons_zero]
  try simp only [Act.put]
  try simp only [List.setIfInBounds_toArray]
  try simp only [List.set_cons_succ]
  try simp only [List.set_cons_zero]
  refine wpAnyH_take (i := 2) (v := ?v2_1) rfl (by kernel_rfl) (by kernel_rfl) (by kernel_rfl) (fun _ _ _ h => h) (Or.inl ⟨by rfl, ?hy2_1⟩) hHeld ?rest2_1
  case hy2_1 => (intro w hSw; clear hSw; go_simp; try with_reducible rfl)
  try simp only [List.getElem_toArray]
  try simp only [List.getElem_cons_succ]
  try simp only [List.getElem_cons_zero]
  try simp only [Act.put]
  try simp only [List.setIfInBounds_toArray]
  try simp only [List.set_cons_succ]
  try simp only [List.set_cons_zero]
  refine' wpAnyH_take (i := 3) (v := _) rfl (by kernel_rfl) (by kernel_rfl) (by kernel_rfl) (fun _ _ _ h => h) (yieldsIf_load_mid (by rfl) _ _ rfl (w.heap.size + 1) 0 rfl (enCells (Fr.list F)) _ ?hS3_1 Try.underlying33 rfl (by rw [frl_length]; exact size27)) hHeld ?rest3_1
  case hS3_1 => exact fun w h => h.2.range 0 _ (frc_whole F)
  try simp only [List.getElem_toArray]
  try simp only [List.getElem_cons_succ]
  try simp only [List.getElem_cons_zero]
  try simp only [Act.put]
  try simp only [List.setIfInBounds_toArray]
  try simp only [List.set_cons_succ]
  try simp only [List.set_cons_zero]
  refine wpAnyH_ready (rs := [4]) (by kernel_rfl) (by simp) ?_
  refine AllReadyH.cons rfl (fun K hK => ?_) AllReadyH.nil
  go_simp
  go_wp2_with (refine (hlane1 _).mono ?_; rintro r y4 ⟨la, lc, rfl, hsl, hc4⟩)
  have h4 : Below x1.heap.size x1 y4 := ((Below.refl _ x1).drew).trans hc4
  refine hK.out _ _ ⟨Bx1.below h4, Ex1.below h4⟩ (fun hHeld => ?_)
  clear hK K hc4
  refine wpAnyH_ready (rs := [5]) (by kernel_rfl) (by simp) ?_
  refine AllReadyH.cons rfl (fun K hK => ?_) AllReadyH.nil
  go_simp
  go_wp2_with (refine (hwith1 la lc _ hsl).mono ?_; rintro r y5 ⟨rfl, hc5⟩)
  have h5 := h4.trans (hc5.mono h4.size)
  have V5 := Vx1.below h5
  have B5 := Bx1.below h5
  have E5 := Ex1.below h5
  have b5 := bx1.trans (h5.mono bx1.size)
  refine hK.out _ _ ⟨B5, E5⟩ (fun hHeld => ?_)
  clear hK K hc5 hsl h4 h5 Bx1 Ex1 Vx1 bx1
  refine wpAnyH_take (i := 6) (v := ?v6_1) rfl (by kernel_rfl) (by kernel_rfl) (by kernel_rfl) (fun _ _ _ h => h) (Or.inl ⟨by rfl, ?hy6_1⟩) hHeld ?rest6_1
  case hy6_1 => (intro w hSw; clear hSw; go_simp; try with_reducible rfl)
  try simp only [List.getElem_toArray]
  try simp only [List.getElem_cons_succ]
  try simp only [List.getElem_cons_zero]
  try simp only [Act.put]
  try simp only [List.setIfInBounds_toArray]
  try simp only [List.set_cons_succ]
  try simp only [List.set_cons_zero]
  obtain ⟨x2, hx2⟩ : ∃ W, y5.setCells V 71 (frc (withL P.f1 n (laneL F 1))).toList = W := ⟨_, rfl⟩
  have Vx2 : Blk V (pkc (withF1 (withF0 P (withL P.f0 n (laneL F 0))) (withL P.f1 n (laneL F 1)))) 35 x2 := by
    rw [← hx2]
    have h := V5.setCells (frc (withL P.f1 n (laneL F 1))).toList 71
    rw [put_f1] at h
    exact h
  have u5 : But V y5 x2 := by rw [← hx2]; exact But.setCells _ _ _ _
  have Bx2 := B5.but u5 nBV
  have Ex2 := E5.but u5 nEV
  have bx2 := b5.trans (u5.below lV b5.size)
  refine wpAnyH_ready (rs := [7]) (by kernel_rfl) (by simp) ?_
  refine AllReadyH.cons rfl (fun K hK => ?_) AllReadyH.nil
  rw [if_pos (by rfl)]
  refine wp_store_mid 33 _ _ rfl V 71 (frc (withL P.f1 n (laneL F 1))) rfl rfl (V5.there 71 _ (by rw [frc_size, pkc_size]; decide)) (by rw [frc_size]; exact size27) (frc_one _) ?_
  rw [hx2]
  refine hK.out _ _ ⟨Bx2, Ex2⟩ (fun hHeld => ?_)
  clear hK K V5 B5 E5 b5 u5 hx2 hHeld
  try simp only [List.getElem_toArray]
  try simp only [List.getElem_cons_succ]
  try simp only [List.getElem_cons_zero]
  try simp only [Act.put]
  try simp only [List.setIfInBounds_toArray]
  try simp only [List.set_cons_succ]
  try simp only [List.set_cons_zero]
  refine wpAnyH_done (by kernel_rfl) ?_ _
  go_wp2_with fail
  refine wp_region_held_drew (S := fun w' => Blk w.heap.size (pkc P) 35 w' ∧ Blk (w.heap.size + 1) (frc F) 33 w') (by kernel_rfl) ⟨Bx2.drew, Ex2.drew⟩ (fun hHeld => ?_)
  refine wpAnyH_take (i := 0) (v := ?v0_2) rfl (by kernel_rfl) (by kernel_rfl) (by kernel_rfl) (fun _ _ _ h => h) (Or.inl ⟨by rfl, ?hy0_2⟩) hHeld ?rest0_2
  case hy0_2 => (intro w hSw; clear hSw; go_simp; try with_reducible rfl)
  try simp only [List.getElem_toArray]
  try simp only [List.getElem_cons_succ]
  try simp only [List.getElem_cons_zero]
  try simp only [Act.put]
  try simp only [List.setIfInBounds_toArray]
  try simp only [List.set_cons_succ]
  try simp only [List.set_cons_zero]
  refine' wpAnyH_take (i := 1) (v := _) rfl (by kernel_rfl) (by kernel_rfl) (by kernel_rfl) (fun _ _ _ h => h) (yieldsIf_load_mid (by rfl) _ _ rfl w.heap.size 109 rfl (enCells (Fr.list P.f2)) _ ?hS1_2 Try.underlying33 rfl (by rw [frl_length]; exact size27)) hHeld ?rest1_2
  case hS1_2 => exact fun w h => h.1.range 109 _ (part_f2 P)
  try simp only [List.getElem_toArray]
  try simp only [List.getElem_cons_succ]
  try simp only [List.getElem_cons_zero]
  try simp only [Act.put]
  try simp only [List.setIfInBounds_toArray]
  try simp only [List.set_cons_succ]
  try simp only [List.set_cons_zero]
  refine wpAnyH_take (i := 2) (v := ?v2_2) rfl (by kernel_rfl) (by kernel_rfl) (by kernel_rfl) (fun _ _ _ h => h) (Or.inl ⟨by rfl, ?hy2_2⟩) hHeld ?rest2_2
  case hy2_2 => (intro w hSw; clear hSw; go_simp; try with_reducible rfl)
  try simp only [List.getElem_toArray]
  try simp only [List.getElem_cons_succ]
  try simp only [List.getElem_cons_zero]
  try simp only [Act.put]
  try simp only [List.setIfInBounds_toArray]
  try simp only [List.set_cons_succ]
  try simp only [List.set_cons_zero]
  refine' wpAnyH_take (i := 3) (v := _) rfl (by kernel_rfl) (by kernel_rfl) (by kernel_rfl) (fun _ _ _ h => h) (yieldsIf_load_mid (by rfl) _ _ rfl (w.heap.size + 1) 0 rfl (enCells (Fr.list F)) _ ?hS3_2 Try.underlying33 rfl (by rw [frl_length]; exact size27)) hHeld ?rest3_2
  case hS3_2 => exact fun w h => h.2.range 0 _ (frc_whole F)
  try simp only [List.getElem_toArray]
  try simp only [List.getElem_cons_succ]
  try simp only [List.getElem_cons_zero]
  try simp only [Act.put]
  try simp only [List.setIfInBounds_toArray]
  try simp only [List.set_cons_succ]
  try simp only [List.set_cons_zero]
  refine wpAnyH_ready (rs := [4]) (by kernel_rfl) (by simp) ?_
  refine AllReadyH.cons rfl (fun K hK => ?_) AllReadyH.nil
  go_simp
  go_wp2_with (refine (hlane2 _).mono ?_; rintro r y4 ⟨la, lc, rfl, hsl, hc4⟩)
  have h4 : Below x2.heap.size x2 y4 := ((Below.refl _ x2).drew).trans hc4
  refine hK.out _ _ ⟨Bx2.below h4, Ex2.below h4⟩ (fun hHeld => ?_)
  clear hK K hc4
  refine wpAnyH_ready (rs := [5]) (by kernel_rfl) (by simp) ?_
  refine AllReadyH.cons rfl (fun K hK => ?_) AllReadyH.nil
  go_simp
  go_wp2_with (refine (hwith2 la lc _ hsl).mono ?_; rintro r y5 ⟨rfl, hc5⟩)
  have h5 := h4.trans (hc5.mono h4.size)
  have V5 := Vx2.below h5
  have B5 := Bx2.below h5
  have E5 := Ex2.below h5
  have b5 := bx2.trans (h5.mono bx2.size)
  refine hK.out _ _ ⟨B5, E5⟩ (fun hHeld => ?_)
  clear hK K hc5 hsl h4 h5 Bx2 Ex2 Vx2 bx2
  refine wpAnyH_take (i := 6) (v := ?v6_2) rfl (by kernel_rfl) (by kernel_rfl) (by kernel_rfl) (fun _ _ _ h => h) (Or.inl ⟨by rfl, ?hy6_2⟩) hHeld ?rest6_2
  case hy6_2 => (intro w hSw; clear hSw; go_simp; try with_reducible rfl)
  try simp only [List.getElem_toArray]
  try simp only [List.getElem_cons_succ]
  try simp only [List.getElem_cons_zero]
  try simp only [Act.put]
  try simp only [List.setIfInBounds_toArray]
  try simp only [List.set_cons_succ]
  try simp only [List.set_cons_zero]
  obtain ⟨x3, hx3⟩ : ∃ W, y5.setCells V 109 (frc (withL P.f2 n (laneL F 2))).toList = W := ⟨_, rfl⟩
  have Vx3 : Blk V (pkc (withF2 (withF1 (withF0 P (withL P.f0 n (laneL F 0))) (withL P.f1 n (laneL F 1))) (withL P.f2 n (laneL F 2)))) 35 x3 := by
    rw [← hx3]
    have h := V5.setCells (frc (withL P.f2 n (laneL F 2))).toList 109
    rw [put_f2] at h
    exact h
  have u5 : But V y5 x3 := by rw [← hx3]; exact But.setCells _ _ _ _
  have Bx3 := B5.but u5 nBV
  have Ex3 := E5.but u5 nEV
  have bx3 := b5.trans (u5.below lV b5.size)
  refine wpAnyH_ready (rs := [7]) (by kernel_rfl) (by simp) ?_
  refine AllReadyH.cons rfl (fun K hK => ?_) AllReadyH.nil
  rw [if_pos (by rfl)]
  refine wp_store_mid 33 _ _ rfl V 109 (frc (withL P.f2 n (laneL F 2))) rfl rfl (V5.there 109 _ (by rw [frc_size, pkc_size]; decide)) (by rw [frc_size]; exact size27) (frc_one _) ?_
  rw [hx3]
  refine hK.out _ _ ⟨Bx3, Ex3⟩ (fun hHeld => ?_)
  clear hK K V5 B5 E5 b5 u5 hx3 hHeld
  try simp only [List.getElem_toArray]
  try simp only [List.getElem_cons_succ]
  try simp only [List.getElem_cons_zero]
  try simp only [Act.put]
  try simp only [List.setIfInBounds_toArray]
  try simp only [List.set_cons_succ]
  try simp only [List.set_cons_zero]
  refine wpAnyH_done (by kernel_rfl) ?_ _
  have eL : withF2 (withF1 (withF0 P (withL P.f0 n (laneL F 0))) (withL P.f1 n (laneL F 1))) (withL P.f2 n (laneL F 2)) = withLanes P n (laneL F 0) (laneL F 1) (laneL F 2) := rfl
  rw [eL] at Vx3
  clear eL hlane0 hlane1 hlane2 hwith0 hwith1 hwith2 Ex3
  go_wp2_with (refine load_blk rfl 35 _ rfl Bx3 rfl Try.underlying35 rfl (by rw [pkc_size]; exact size35) ?_)
  refine (hE _).mono ?_
  rintro r w8 ⟨rfl, hb8⟩
  have V8 := Vx3.below hb8
  have b8 := bx3.trans (hb8.mono bx3.size)
  clear hb8 Bx3 Vx3 bx3 hE
  go_wp2_with (refine load_blk rfl 35 _ rfl V8 rfl Try.underlying35 rfl (by rw [pkc_size]; exact size35) ?_)
  refine (hQ _).mono ?_
  rintro r w9 ⟨rfl, hb9⟩
  have b9 := b8.trans (hb9.mono b8.size)
  clear hb9 V8 b8 hQ
  go_wp2_with fail
  refine (fixed_any _).mono ?_
  rintro r w10 ⟨rfl, hb10⟩
  have b10 := b9.trans (hb10.mono b9.size)
  clear hb10 b9
  rcases hcs with rfl | ⟨rfl, hms, hss⟩
  · go_wp2_with fail
    refine (fixed_any _).mono ?_
    rintro r w11 ⟨rfl, hb11⟩
    go_wp2_with fail
    go_ret
    exact ⟨rfl, b10.trans (hb11.mono b10.size)⟩
  rcases hcq with rfl | ⟨rfl, hmq, hsq⟩
  · go_wp2_with fail
    refine (fixed_any _).mono ?_
    rintro r w11 ⟨rfl, hb11⟩
    go_wp2_with fail
    go_ret
    exact ⟨rfl, b10.trans (hb11.mono b10.size)⟩
  have HZS : Hid (s.size = 641) := by unfold Hid; rw [hss]; exact sealed_size _
  have HZT : Hid (u.size = 641) := by unfold Hid; rw [hsq]; exact sealed_size _
  have hlen : ((s.size : Int) != (u.size : Int)) = false := by rw [HZS.out, HZT.out]; rfl
  have HSS : Hid (P.sealed = s) := hss.symm
  have HSQ : Hid ((withLanes P n (laneL F 0) (laneL F 1) (laneL F 2)).sealed = u) := hsq.symm
  clear hss hsq hms hmq
  go_wp2_with fail
  clear hlen
  go_loopw [12] (fun i w' => ∃ m : Nat, m ≤ 637 ∧ i = .int .i64 m ∧ Below w.heap.size w w') (fun i _ => 637 - (intOf i).toNat)
  case atStart => exact ⟨0, by omega, rfl, b10⟩
  case round =>
    clear b10
    obtain ⟨m, hm, rfl, hb⟩ := hrel
    by_cases hlt : m < 637
    · have d1 : (m : Int) < 637 := by omega
      have hsm : m < s.size := by rw [HZS.out]; omega
      have hum : m < u.size := by rw [HZT.out]; omega
      have hbyte := byte_same P n (laneL F 0) (laneL F 1) (laneL F 2) m hlt s u HSS.out HSQ.out hsm hum
      have k1 := fun w => lies_ok m 128 n hlt (by decide) ⟨hn0, hn3⟩ w
      have k2 := fun w => lies_ok m 296 n hlt (by decide) ⟨hn0, hn3⟩ w
      have k3 := fun w => lies_ok m 469 n hlt (by decide) ⟨hn0, hn3⟩ w
      by_cases hsu : s[m] = u[m]
      · have e1 : ((s[m].toNat : Int) == (u[m].toNat : Int)) = true := by rw [hsu]; simp
        have e2 : ((s[m].toNat : Int) != (u[m].toNat : Int)) = false := by rw [bne, e1]; rfl
        clear hbyte k1 k2 k3 hsu
        go_wp2_with fail
        refine wp_region_quiet_below (by kernel_rfl) (by kernel_rfl) ?_
        repeat (go_big_quiet_step (fail))
        refine wpQuiet_nil ?_
        intro w2 hw'
        have hb2 : Below w.heap.size w w2 := by
          obtain ⟨⟨dq, osq⟩, hw''⟩ := hw'
          rw [hw'']
          exact hb.trans ((below_regrown wr dq osq).mono hb.size)
        clear hw' hb
        go_wp2_with fail
        refine ⟨⟨m + 1, by omega, by go_num, hb2⟩, by simp [intOf]; omega⟩
      · have hsu2 : ¬ (s[m].toNat : Int) = (u[m].toNat : Int) := by
          intro h
          exact hsu (UInt8.toNat_inj.1 (by omega))
        have e1 : ((s[m].toNat : Int) == (u[m].toNat : Int)) = false := by rw [beq_eq_false_iff_ne]; exact hsu2
        have e2 : ((s[m].toNat : Int) != (u[m].toNat : Int)) = true := by rw [bne, e1]; rfl
        have hor : (liesB m 128 n || (liesB m 296 n || liesB m 469 n)) = true := by
          cases h : (liesB m 128 n || (liesB m 296 n || liesB m 469 n))
          · exact absurd (hbyte h) hsu
          · rfl
        clear hbyte hsu hsu2
        cases l1 : liesB m 128 n
        · rw [l1] at k1
          cases l2 : liesB m 296 n
          · rw [l2] at k2
            rw [l1, l2, Bool.false_or, Bool.false_or] at hor
            rw [hor] at k3
            clear hor l1 l2
            have p1 : ∀ d os, Calls Try.prog 20 #[.int .i64 (m : Int), .int .i64 128, .int .i64 n] (grow (redrawn wr d) os) fun e w'' => e = .returned (.bool false) ∧ ∃ p : Regrown, w'' = grow (redrawn wr p.d) p.os := fun d os => Calls.regrown_of (stays (k1 _))
            have p2 : ∀ d os, Calls Try.prog 20 #[.int .i64 (m : Int), .int .i64 296, .int .i64 n] (grow (redrawn wr d) os) fun e w'' => e = .returned (.bool false) ∧ ∃ p : Regrown, w'' = grow (redrawn wr p.d) p.os := fun d os => Calls.regrown_of (stays (k2 _))
            have p3 : ∀ d os, Calls Try.prog 20 #[.int .i64 (m : Int), .int .i64 469, .int .i64 n] (grow (redrawn wr d) os) fun e w'' => e = .returned (.bool true) ∧ ∃ p : Regrown, w'' = grow (redrawn wr p.d) p.os := fun d os => Calls.regrown_of (stays (k3 _))
            clear k1 k2 k3
            go_wp2_with fail
            refine wp_region_quiet_below (by kernel_rfl) (by kernel_rfl) ?_
            repeat (go_big_quiet_step (first | with_reducible exact p1 _ _ | with_reducible exact p2 _ _ | with_reducible exact p3 _ _))
            refine wpQuiet_nil ?_
            intro w2 hw'
            have hb2 : Below w.heap.size w w2 := by
              obtain ⟨⟨dq, osq⟩, hw''⟩ := hw'
              rw [hw'']
              exact hb.trans ((below_regrown wr dq osq).mono hb.size)
            clear hw' hb
            go_wp2_with fail
            refine ⟨⟨m + 1, by omega, by go_num, hb2⟩, by simp [intOf]; omega⟩
          · rw [l2] at k2
            clear hor l1 l2 k3
            have p1 : ∀ d os, Calls Try.prog 20 #[.int .i64 (m : Int), .int .i64 128, .int .i64 n] (grow (redrawn wr d) os) fun e w'' => e = .returned (.bool false) ∧ ∃ p : Regrown, w'' = grow (redrawn wr p.d) p.os := fun d os => Calls.regrown_of (stays (k1 _))
            have p2 : ∀ d os, Calls Try.prog 20 #[.int .i64 (m : Int), .int .i64 296, .int .i64 n] (grow (redrawn wr d) os) fun e w'' => e = .returned (.bool true) ∧ ∃ p : Regrown, w'' = grow (redrawn wr p.d) p.os := fun d os => Calls.regrown_of (stays (k2 _))
            clear k1 k2
            go_wp2_with fail
            refine wp_region_quiet_below (by kernel_rfl) (by kernel_rfl) ?_
            repeat (go_big_quiet_step (first | with_reducible exact p1 _ _ | with_reducible exact p2 _ _))
            refine wpQuiet_nil ?_
            intro w2 hw'
            have hb2 : Below w.heap.size w w2 := by
              obtain ⟨⟨dq, osq⟩, hw''⟩ := hw'
              rw [hw'']
              exact hb.trans ((below_regrown wr dq osq).mono hb.size)
            clear hw' hb
            go_wp2_with fail
            refine ⟨⟨m + 1, by omega, by go_num, hb2⟩, by simp [intOf]; omega⟩
        · rw [l1] at k1
          clear hor l1 k2 k3
          have p1 : ∀ d os, Calls Try.prog 20 #[.int .i64 (m : Int), .int .i64 128, .int .i64 n] (grow (redrawn wr d) os) fun e w'' => e = .returned (.bool true) ∧ ∃ p : Regrown, w'' = grow (redrawn wr p.d) p.os := fun d os => Calls.regrown_of (stays (k1 _))
          clear k1
          go_wp2_with fail
          refine wp_region_quiet_below (by kernel_rfl) (by kernel_rfl) ?_
          repeat (go_big_quiet_step (first | with_reducible exact p1 _ _))
          refine wpQuiet_nil ?_
          intro w2 hw'
          have hb2 : Below w.heap.size w w2 := by
            obtain ⟨⟨dq, osq⟩, hw''⟩ := hw'
            rw [hw'']
            exact hb.trans ((below_regrown wr dq osq).mono hb.size)
          clear hw' hb
          go_wp2_with fail
          refine ⟨⟨m + 1, by omega, by go_num, hb2⟩, by simp [intOf]; omega⟩
    · obtain rfl : m = 637 := by omega
      go_wp2_with fail
      go_ret
      exact ⟨rfl, hb⟩

set_option maxHeartbeats 2000000 in
theorem walk_out (P : Pk) (n : Int) (hn : n < 0 ∨ 2 < n) (F : Nat → En) (w : World) : Calls Try.prog 7 #[.agg (pkc P), .int .i64 n, .agg (frc F)] w fun e w' => e = .returned (.bool true) ∧ Below w.heap.size w w' := by
  obtain ⟨wa, hwa⟩ : ∃ wa, w.alloc (.cells (pkc P) 35) = wa := ⟨_, rfl⟩
  have za : wa.heap.size = w.heap.size + 1 := by rw [← hwa]; simp
  obtain ⟨wb, hwb⟩ : ∃ wb, wa.alloc (.cells (frc F) 33) = wb := ⟨_, rfl⟩
  have zb : wb.heap.size = w.heap.size + 2 := by rw [← hwb]; simp [za]
  have Bb : Blk w.heap.size (pkc P) 35 wb := by rw [← hwb, ← hwa]; exact (blk_new w _ _).alloc _
  have Eb : Blk (w.heap.size + 1) (frc F) 33 wb := by rw [← za, ← hwb]; exact blk_new wa _ _
  have bb : Below w.heap.size w wb := by rw [← hwb, ← hwa]; exact (below_box w _).alloc (by simp) _
  obtain ⟨x0, hx0⟩ : ∃ x, wb.alloc (.cells (pkc P) 35) = x := ⟨_, rfl⟩
  obtain ⟨V, hV⟩ : ∃ V, wb.heap.size = V := ⟨_, rfl⟩
  have Bx0 : Blk w.heap.size (pkc P) 35 x0 := by rw [← hx0]; exact Bb.alloc _
  have Ex0 : Blk (w.heap.size + 1) (frc F) 33 x0 := by rw [← hx0]; exact Eb.alloc _
  have Vx0 : Blk V (pkc P) 35 x0 := by rw [← hx0, ← hV]; exact blk_new wb _ _
  have bx0 : Below w.heap.size w x0 := by rw [← hx0]; exact bb.alloc bb.size _
  have nBV : w.heap.size ≠ V := by omega
  have nEV : w.heap.size + 1 ≠ V := by omega
  have lV : w.heap.size ≤ V := by omega
  have HV : Hid (wb.heap.size = V) := hV
  have HX : Hid (wb.alloc (.cells (pkc P) 35) = x0) := hx0
  clear hV zb hx0
  rcases hn with hn | hn
  all_goals (try have hn2 : ¬ n < 0 := by omega)
  all_goals
    go_enter Try.func7, Try.ntmps7
    go_wp2_with (first | refine load_blk rfl 35 _ rfl Bb rfl Try.underlying35 rfl (by rw [pkc_size]; exact size35) ?_ | refine alloc_pk rfl rfl ?_ | (refine store_new (cells := pkc P) rfl 35 _ _ rfl rfl rfl (by rw [pkc_size]; exact size35) ((pkc_size _).trans (pkc_size _).symm) (pkc_one _) ?_; rw [HX.out, HV.out]))
    refine (fixed_any _).mono ?_
    rintro r w11 ⟨rfl, hb11⟩
    go_wp2_with fail
    go_ret
    exact ⟨rfl, bx0.trans (hb11.mono bx0.size)⟩

theorem walk (P : Pk) (hP : ∀ i, P.n i < 4294967296) (n : Int) (_hn : (Lit.int .i64 n).wf = true) (F : Nat → En) (w : World) : Calls Try.prog 7 #[.agg (pkc P), .int .i64 n, .agg (frc F)] w fun e w' => e = .returned (.bool true) ∧ Below w.heap.size w w' := by
  by_cases h0 : n < 0
  · exact walk_out P n (.inl h0) F w
  · by_cases h2 : 2 < n
    · exact walk_out P n (.inr h2) F w
    · exact walk_in P hP n (by omega) (by omega) F w

set_option maxRecDepth 100000 in
theorem lifted (os : Os) (started : os.Started) (H : Type) (enc : TypeId × Value → H) :
    ReturnsInHanded {} Try.checked os 7 .any (Rows.packetApartSpec.pre6 enc Try.prog Try.f7 Rows.packetApartRow.domain false) (Rows.packetApartSpec.post enc Try.prog Try.f7 false true false false) := by
  refine returnsInHanded_of_change_sized (C := Try.checked) own started (by kernel_rfl) Try.func7
    (ChangeSpec.witness6 (enc := enc) (C := Try.checked) false ⟨#[], #[.agg (pkc Pk.zero), .int .i64 0, .agg #[.int .i64 0, .int .i64 0, .int .i64 0, .int .u64 0, .int .u64 0, .string ByteArray.empty, .int .i64 0, .int .i64 0, .int .i64 0, .int .u64 0, .int .u64 0, .string ByteArray.empty, .int .i64 0, .int .i64 0, .int .i64 0, .int .u64 0, .int .u64 0, .string ByteArray.empty, .int .i64 0, .int .i64 0, .int .i64 0, .int .u64 0, .int .u64 0, .string ByteArray.empty, .int .i64 0, .int .i64 0, .int .i64 0, .int .u64 0, .int .u64 0, .string ByteArray.empty, .int .i64 0, .int .i64 0, .int .i64 0, .int .u64 0, .int .u64 0, .string ByteArray.empty]], []⟩ 8 (by kernel_rfl) (by kernel_rfl) (by kernel_rfl) (by kernel_rfl)) ?_
  intro W base args ds gs before hval0 hW hcnd hsz0 _
  have hval : ∀ (j : Nat) t v, Try.f7.params[j]? = some t → args[j]? = some v → Value.okWide Try.prog W .any base t v := hval0
  have hsz : (DataW.weightsEach Try.prog (Try.f7.params.toList ++ Rows.packetApartSpec.plain.varTypes Try.prog) (ds ++ gs)).all (· ≤ reachBytes) = true := hsz0
  have hW' := hW
  obtain ⟨p, q, hA0, hV, rfl, hfz, hnd⟩ := hW
  have hA : DataW.TrodAll enc Try.prog W 0 (fun _ => true) true Try.f7.params.toList args.toList ds p := hA0
  rw [Try.params7] at hA hval hsz

  obtain ⟨v0, vs0, d0, ds0, p0, q0, hargs, rfl, rfl, h0, r0⟩ := trodAll_cons hA
  obtain ⟨v1, vs1, d1, ds1, p1, q1, rfl, rfl, rfl, h1, r1⟩ := trodAll_cons r0
  obtain ⟨v2, vs2, d2, ds2, p2, q2, rfl, rfl, rfl, h2, r2⟩ := trodAll_cons r1
  obtain ⟨rfl, rfl, rfl⟩ := trodAll_nil r2
  obtain rfl : args = #[v0, v1, v2] := by cases args; simp_all
  obtain ⟨rfl, rfl⟩ := trodVars_none hV
  obtain ⟨P0, rfl, hP0⟩ := open_packet (by obtain ⟨cs, h1, _⟩ := okWide_struct Try.underlying35 (hval 0 35 v0 rfl rfl); exact ⟨cs, h1⟩) h0
  obtain ⟨a1, rfl, rfl, rfl, w1⟩ := open_int Try.underlying3 (hval 1 3 v1 rfl rfl) h1
  obtain ⟨F2, rfl⟩ := open_frame (by obtain ⟨cs, h1, _⟩ := (by simpa only [Value.okWide, Try.underlying33] using hval 2 33 v2 rfl rfl : ∃ cs, v2 = .agg cs ∧ _); exact ⟨cs, h1⟩) h2
  have hA2 := hA0
  clear hA0 hval0 hsz0
  simp only [List.append_nil] at hW'
  refine (walk P0 hP0 a1 w1 F2 W).mono fun e W' ⟨he, bel⟩ => ?_
  subst he
  exact ⟨_, rfl, _, _, _, [], _, [], hW', trodAll_mk1 (shut_bool Try.underlying4 _), (stays_all laidOut bel (by kernel_rfl) hA2), rfl, bel.frame _, fun h => by cases h⟩

theorem over : Rows.packetApartRow.holds Try.pinned (OpenSpec.ofChange Rows.packetApartSpec) :=
  OpenClaim.holds_of_wide 7 Try.f7 rfl rfl rfl rfl rfl rfl rfl ⟨rfl, rfl, rfl, rfl, rfl⟩ rfl rfl rfl rfl rfl (by kernel_rfl) Try.func7 (by kernel_rfl)
    (of_decide_eq_true (by kernel_rfl)) (by unfold Func.isWrapper; first | (rw [if_pos (by decide +kernel)]; kernel_rfl) | (rw [if_neg (by decide +kernel)]; exact ⟨rfl, rfl⟩))
    (fun os started H enc _ => lifted os started H enc)

end Go.Proofs.Ytmbddjejbmjmfaa.packetApart
namespace Go.Proofs.Ytmbddjejbmjmfaa

theorem packetApart_holds : Rows.PacketApartSaid := packetApart.over
#print axioms packetApart_holds

end Go.Proofs.Ytmbddjejbmjmfaa
