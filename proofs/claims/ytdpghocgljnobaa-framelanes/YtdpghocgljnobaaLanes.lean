/-
  What any lane has, and any frame with another lane, is as the document says: the law FrameLanes returns true for every input.
  No condition beyond the form's own.
-/
import Derived.Test.YtdpghocgljnobaaRows
import Derived.Test.YtdpghocgljnobaaFrFy
import Derived.Test.YtdpghocgljnobaaFrIn
import Derived.Test.YtdpghocgljnobaaFrEs
import Derived.WalkKit
import Derived.ProofKit
import Derived.OpenShut
import Derived.ShutString
import Derived.SizedLaws
import Derived.ChangeOld
import Derived.Below
namespace Go.Proofs.Ytdpghocgljnobaa.frameLanes
open Go.Sort Go.ChangeShapes Go.WideShapes Go.ChangeAt Go.RowKit
open Go.ChangeMaps (open_string shut_string)
set_option linter.unusedVariables false

theorem own : ownKnob Try.prog.godebug = none := by kernel_rfl
theorem length_bytes (s : ByteArray) : s.data.toList.length = s.size := by rw [Array.length_toList]; rfl

theorem frc_whole (F : Nat → En) : ((frc F).extract 0 (0 + (enCells (Fr.list F)).length)).toList = enCells (Fr.list F) := by
  have h : (frc F).toList = enCells (Fr.list F) := rfl
  rw [Nat.zero_add, Array.toList_extract, h]
  simp [List.extract]

theorem laneL_le (F : Nat → En) (n : Int) : (laneL F n).length ≤ 140737488355328 := by
  unfold laneL
  split
  · have := laneUp_le F n.toNat 2; omega
  · simp

set_option maxHeartbeats 1000000 in
theorem walk (F : Nat → En) (n : Int) (_hn : (Lit.int .i64 n).wf = true) (la : Option Addr) (L : List En) (lc : Nat) (_lm : L.length ≤ maxLen) (w : World) (hS : Sl la L w) : Calls Try.prog 4 #[.agg (frc F), .int .i64 n, .slice la L.length lc] w fun e w' => e = .returned (.bool true) ∧ Below w.heap.size w w' := by
  have hu := Try.underlying27
  have hi : (Try.prog.info? 27).map (·.size) = some (enCells (Fr.list F)).length := by rw [enCells_length]; exact size27
  have hl36 : (enCells (Fr.list F)).length = 36 := by rw [enCells_length]; rfl
  obtain ⟨w0, hw0⟩ : ∃ w0, w.alloc (.cells (frc F) 27) = w0 := ⟨_, rfl⟩
  have hb0 := below_box w (.cells (frc F) 27)
  have hr0 := (blk_new w (frc F) 27).range 0 (enCells (Fr.list F)) (frc_whole F)
  have hL0 := hS.below hb0
  rw [hw0] at hb0 hr0 hL0
  have hlt0 : w.heap.size < w0.heap.size := by rw [← hw0]; simp
  have keep : ∀ w1 w2 : World, (w1.rangeAt w.heap.size 0 (enCells (Fr.list F)) ∧ Below w0.heap.size w0 w1) → Below w1.heap.size w1 w2 → (w2.rangeAt w.heap.size 0 (enCells (Fr.list F)) ∧ Below w0.heap.size w0 w2) := by
    rintro w1 w2 ⟨hr, hb⟩ hb2
    refine ⟨fun j v hv => ?_, hb.trans (hb2.mono hb.size)⟩
    rw [hb2.cell (p := ⟨w.heap.size, 0 + j, none⟩) (Nat.lt_of_lt_of_le hlt0 hb.size)]
    exact hr j v hv
  have keq := eql_frame (withL F n L)
  have cfix : ∀ w1 : World, (w1.rangeAt w.heap.size 0 (enCells (Fr.list F)) ∧ Below w0.heap.size w0 w1) → Calls Try.prog 12 #[] w1 fun r w2 => r = .returned (.bool true) ∧ (w2.rangeAt w.heap.size 0 (enCells (Fr.list F)) ∧ Below w0.heap.size w0 w2) :=
    fun w1 h => (fixed_any w1).mono fun _ w2 ⟨h1, h2⟩ => ⟨h1, keep w1 w2 h h2⟩
  have clane : ∀ w1 : World, (w1.rangeAt w.heap.size 0 (enCells (Fr.list F)) ∧ Below w0.heap.size w0 w1) → Calls Try.prog 16 #[.agg (enCells (Fr.list F)).toArray, .int .i64 n] w1 fun r w2 => ∃ a c, r = .returned (.slice a (laneL F n).length c) ∧ Sl a (laneL F n) w2 ∧ (w2.rangeAt w.heap.size 0 (enCells (Fr.list F)) ∧ Below w0.heap.size w0 w2) :=
    fun w1 h => (frLane F n w1).mono fun _ w2 ⟨a, c, h1, hs, h2⟩ => ⟨a, c, h1, hs, keep w1 w2 h h2⟩
  have crlane : ∀ w1 : World, (w1.rangeAt w.heap.size 0 (enCells (Fr.list F)) ∧ Below w0.heap.size w0 w1) → Calls Try.prog 17 #[.agg (enCells (Fr.list F)).toArray, .int .i64 n] w1 fun r w2 => ∃ a c, r = .returned (.slice a (laneL F n).length c) ∧ Sl a (laneL F n) w2 ∧ (w2.rangeAt w.heap.size 0 (enCells (Fr.list F)) ∧ Below w0.heap.size w0 w2) ∧ Below w1.heap.size w1 w2 :=
    fun w1 h => (rfrLane F n w1).mono fun _ w2 ⟨a, c, h1, hs, h2⟩ => ⟨a, c, h1, hs, keep w1 w2 h h2, h2⟩
  have cent : ∀ (a b : Option Addr) (c d : Nat) (w1 : World), (w1.rangeAt w.heap.size 0 (enCells (Fr.list F)) ∧ Below w0.heap.size w0 w1) → Sl a (laneL F n) w1 → Sl b (laneL F n) w1 → Calls Try.prog 15 #[.slice a (laneL F n).length c, .slice b (laneL F n).length d] w1 fun r w2 => r = .returned (.bool true) ∧ (w2.rangeAt w.heap.size 0 (enCells (Fr.list F)) ∧ Below w0.heap.size w0 w2) :=
    fun a b c d w1 h ha hb => (entries_same a b (laneL F n) c d (laneL_le F n) w1 ha hb).mono fun _ w2 ⟨h1, h2⟩ => ⟨h1, keep w1 w2 h h2⟩
  have cwith : ∀ w1 : World, (w1.rangeAt w.heap.size 0 (enCells (Fr.list F)) ∧ Below w0.heap.size w0 w1) → Calls Try.prog 18 #[.agg (enCells (Fr.list F)).toArray, .int .i64 n, .slice la L.length lc] w1 fun r w2 => r = .returned (.agg (frc (withL F n L))) ∧ (w2.rangeAt w.heap.size 0 (enCells (Fr.list F)) ∧ Below w0.heap.size w0 w2) :=
    fun w1 h => (frWith F n la L lc w1 (hL0.below h.2)).mono fun _ w2 ⟨h1, h2⟩ => ⟨h1, keep w1 w2 h h2⟩
  have crwith : ∀ w1 : World, (w1.rangeAt w.heap.size 0 (enCells (Fr.list F)) ∧ Below w0.heap.size w0 w1) → Calls Try.prog 19 #[.agg (enCells (Fr.list F)).toArray, .int .i64 n, .slice la L.length lc] w1 fun r w2 => r = .returned (.agg (frc (withL F n L))) ∧ (w2.rangeAt w.heap.size 0 (enCells (Fr.list F)) ∧ Below w0.heap.size w0 w2) :=
    fun w1 h => (rfrWith F n la L lc w1 (hL0.below h.2)).mono fun _ w2 ⟨h1, h2⟩ => ⟨h1, keep w1 w2 h h2⟩
  have S0 : w0.rangeAt w.heap.size 0 (enCells (Fr.list F)) ∧ Below w0.heap.size w0 w0 := ⟨hr0, .refl _ _⟩
  generalize (laneL F n).length = k at clane crlane cent
  generalize L.length = ln at cwith crwith ⊢
  generalize frc (withL F n L) = R at cwith crwith keq
  clear hS hL0 keep hr0
  go_enter Try.func4, Try.ntmps4
  go_wp2_with fail
  refine wp_region_held_drew (S := fun w' => w'.rangeAt w.heap.size 0 (enCells (Fr.list F)) ∧ Below w0.heap.size w0 w') (by kernel_rfl) ⟨(World.rangeAt_drew _ _ _ _).2 S0.1, S0.2.drew⟩ (fun hHeld => ?_)
  refine wpAnyH_ready (rs := [0]) (by kernel_rfl) (by simp) ?_
  refine AllReadyH.cons rfl (fun K hK => ?_) AllReadyH.nil
  go_simp
  go_wp2_with (refine (cfix _ hHeld).mono ?_; rintro r w0 ⟨rfl, hS1⟩)
  refine hK.out _ _ hS1 (fun hHeld => ?_)
  clear hK K
  refine wpAnyH_take (i := 1) (v := ?v1) rfl (by kernel_rfl) (by kernel_rfl) (by kernel_rfl) (fun _ _ _ h => h) (Or.inl ⟨by rfl, ?hy1⟩) hHeld ?rest1
  case hy1 => (intro w hSw; clear hSw; go_simp; try with_reducible rfl)
  try simp only [List.getElem_toArray]
  try simp only [List.getElem_cons_succ]
  try simp only [List.getElem_cons_zero]
  try simp only [Act.put]
  try simp only [List.setIfInBounds_toArray]
  try simp only [List.set_cons_succ]
  try simp only [List.set_cons_zero]
  refine' wpAnyH_take (i := 2) (v := _) rfl (by kernel_rfl) (by kernel_rfl) (by kernel_rfl) (fun _ _ _ h => h) (yieldsIf_load_mid (by rfl) _ _ rfl _ _ rfl _ _ ?hS2 hu rfl hi) hHeld ?rest2
  case hS2 => exact fun w h => h.1
  try simp only [List.getElem_toArray]
  try simp only [List.getElem_cons_succ]
  try simp only [List.getElem_cons_zero]
  try simp only [Act.put]
  try simp only [List.setIfInBounds_toArray]
  try simp only [List.set_cons_succ]
  try simp only [List.set_cons_zero]
  refine wpAnyH_take (i := 3) (v := ?v3) rfl (by kernel_rfl) (by kernel_rfl) (by kernel_rfl) (fun _ _ _ h => h) (Or.inl ⟨by rfl, ?hy3⟩) hHeld ?rest3
  case hy3 => (intro w hSw; clear hSw; go_simp; try with_reducible rfl)
  try simp only [List.getElem_toArray]
  try simp only [List.getElem_cons_succ]
  try simp only [List.getElem_cons_zero]
  try simp only [Act.put]
  try simp only [List.setIfInBounds_toArray]
  try simp only [List.set_cons_succ]
  try simp only [List.set_cons_zero]
  refine' wpAnyH_take (i := 5) (v := _) rfl (by kernel_rfl) (by kernel_rfl) (by kernel_rfl) (fun _ _ _ h => h) (yieldsIf_load_mid (by rfl) _ _ rfl _ _ rfl _ _ ?hS5 hu rfl hi) hHeld ?rest5
  case hS5 => exact fun w h => h.1
  try simp only [List.getElem_toArray]
  try simp only [List.getElem_cons_succ]
  try simp only [List.getElem_cons_zero]
  try simp only [Act.put]
  try simp only [List.setIfInBounds_toArray]
  try simp only [List.set_cons_succ]
  try simp only [List.set_cons_zero]
  refine wpAnyH_take (i := 6) (v := ?v6) rfl (by kernel_rfl) (by kernel_rfl) (by kernel_rfl) (fun _ _ _ h => h) (Or.inl ⟨by rfl, ?hy6⟩) hHeld ?rest6
  case hy6 => (intro w hSw; clear hSw; go_simp; try with_reducible rfl)
  try simp only [List.getElem_toArray]
  try simp only [List.getElem_cons_succ]
  try simp only [List.getElem_cons_zero]
  try simp only [Act.put]
  try simp only [List.setIfInBounds_toArray]
  try simp only [List.set_cons_succ]
  try simp only [List.set_cons_zero]
  refine wpAnyH_ready (rs := [4]) (by kernel_rfl) (by simp) ?_
  refine AllReadyH.cons rfl (fun K hK => ?_) AllReadyH.nil
  go_simp
  go_wp2_with (refine (clane _ hHeld).mono ?_; rintro r w4 ⟨a1, c1, rfl, hs1, hS2⟩)
  refine hK.out _ _ hS2 (fun hHeld => ?_)
  clear hK K
  refine wpAnyH_ready (rs := [7]) (by kernel_rfl) (by simp) ?_
  refine AllReadyH.cons rfl (fun K hK => ?_) AllReadyH.nil
  go_simp
  go_wp2_with (refine (crlane _ hHeld).mono ?_; rintro r w7 ⟨a2, c2, rfl, hs2, hS3, hb3⟩)
  refine hK.out _ _ hS3 (fun hHeld => ?_)
  clear hK K
  have hs3 := hs1.below hb3
  refine wpAnyH_ready (rs := [8]) (by kernel_rfl) (by simp) ?_
  refine AllReadyH.cons rfl (fun K hK => ?_) AllReadyH.nil
  go_simp
  go_wp2_with (refine (cent _ _ _ _ _ hHeld hs3 hs2).mono ?_; rintro r w8 ⟨rfl, hS4⟩)
  refine hK.out _ _ hS4 (fun hHeld => ?_)
  clear hK K
  refine wpAnyH_take (i := 9) (v := ?v9) rfl (by kernel_rfl) (by kernel_rfl) (by kernel_rfl) (fun _ _ _ h => h) (Or.inl ⟨by rfl, ?hy9⟩) hHeld ?rest9
  case hy9 => (intro w hSw; clear hSw; go_simp; try with_reducible rfl)
  try simp only [List.getElem_toArray]
  try simp only [List.getElem_cons_succ]
  try simp only [List.getElem_cons_zero]
  try simp only [Act.put]
  try simp only [List.setIfInBounds_toArray]
  try simp only [List.set_cons_succ]
  try simp only [List.set_cons_zero]
  refine wpAnyH_take (i := 10) (v := ?v10) rfl (by kernel_rfl) (by kernel_rfl) (by kernel_rfl) (fun _ _ _ h => h) (Or.inl ⟨by rfl, ?hy10⟩) hHeld ?rest10
  case hy10 => (intro w hSw; clear hSw; go_simp; try with_reducible rfl)
  try simp only [List.getElem_toArray]
  try simp only [List.getElem_cons_succ]
  try simp only [List.getElem_cons_zero]
  try simp only [Act.put]
  try simp only [List.setIfInBounds_toArray]
  try simp only [List.set_cons_succ]
  try simp only [List.set_cons_zero]
  refine' wpAnyH_take (i := 11) (v := _) rfl (by kernel_rfl) (by kernel_rfl) (by kernel_rfl) (fun _ _ _ h => h) (yieldsIf_load_mid (by rfl) _ _ rfl _ _ rfl _ _ ?hS11 hu rfl hi) hHeld ?rest11
  case hS11 => exact fun w h => h.1
  try simp only [List.getElem_toArray]
  try simp only [List.getElem_cons_succ]
  try simp only [List.getElem_cons_zero]
  try simp only [Act.put]
  try simp only [List.setIfInBounds_toArray]
  try simp only [List.set_cons_succ]
  try simp only [List.set_cons_zero]
  refine wpAnyH_take (i := 12) (v := ?v12) rfl (by kernel_rfl) (by kernel_rfl) (by kernel_rfl) (fun _ _ _ h => h) (Or.inl ⟨by rfl, ?hy12⟩) hHeld ?rest12
  case hy12 => (intro w hSw; clear hSw; go_simp; try with_reducible rfl)
  try simp only [List.getElem_toArray]
  try simp only [List.getElem_cons_succ]
  try simp only [List.getElem_cons_zero]
  try simp only [Act.put]
  try simp only [List.setIfInBounds_toArray]
  try simp only [List.set_cons_succ]
  try simp only [List.set_cons_zero]
  refine wpAnyH_take (i := 13) (v := ?v13) rfl (by kernel_rfl) (by kernel_rfl) (by kernel_rfl) (fun _ _ _ h => h) (Or.inl ⟨by rfl, ?hy13⟩) hHeld ?rest13
  case hy13 => (intro w hSw; clear hSw; go_simp; try with_reducible rfl)
  try simp only [List.getElem_toArray]
  try simp only [List.getElem_cons_succ]
  try simp only [List.getElem_cons_zero]
  try simp only [Act.put]
  try simp only [List.setIfInBounds_toArray]
  try simp only [List.set_cons_succ]
  try simp only [List.set_cons_zero]
  refine' wpAnyH_take (i := 15) (v := _) rfl (by kernel_rfl) (by kernel_rfl) (by kernel_rfl) (fun _ _ _ h => h) (yieldsIf_load_mid (by rfl) _ _ rfl _ _ rfl _ _ ?hS15 hu rfl hi) hHeld ?rest15
  case hS15 => exact fun w h => h.1
  try simp only [List.getElem_toArray]
  try simp only [List.getElem_cons_succ]
  try simp only [List.getElem_cons_zero]
  try simp only [Act.put]
  try simp only [List.setIfInBounds_toArray]
  try simp only [List.set_cons_succ]
  try simp only [List.set_cons_zero]
  refine wpAnyH_take (i := 16) (v := ?v16) rfl (by kernel_rfl) (by kernel_rfl) (by kernel_rfl) (fun _ _ _ h => h) (Or.inl ⟨by rfl, ?hy16⟩) hHeld ?rest16
  case hy16 => (intro w hSw; clear hSw; go_simp; try with_reducible rfl)
  try simp only [List.getElem_toArray]
  try simp only [List.getElem_cons_succ]
  try simp only [List.getElem_cons_zero]
  try simp only [Act.put]
  try simp only [List.setIfInBounds_toArray]
  try simp only [List.set_cons_succ]
  try simp only [List.set_cons_zero]
  refine wpAnyH_take (i := 17) (v := ?v17) rfl (by kernel_rfl) (by kernel_rfl) (by kernel_rfl) (fun _ _ _ h => h) (Or.inl ⟨by rfl, ?hy17⟩) hHeld ?rest17
  case hy17 => (intro w hSw; clear hSw; go_simp; try with_reducible rfl)
  try simp only [List.getElem_toArray]
  try simp only [List.getElem_cons_succ]
  try simp only [List.getElem_cons_zero]
  try simp only [Act.put]
  try simp only [List.setIfInBounds_toArray]
  try simp only [List.set_cons_succ]
  try simp only [List.set_cons_zero]
  refine wpAnyH_ready (rs := [14]) (by kernel_rfl) (by simp) ?_
  refine AllReadyH.cons rfl (fun K hK => ?_) AllReadyH.nil
  go_simp
  go_wp2_with (refine (cwith _ hHeld).mono ?_; rintro r w14 ⟨rfl, hS5⟩)
  refine hK.out _ _ hS5 (fun hHeld => ?_)
  clear hK K
  refine wpAnyH_ready (rs := [18]) (by kernel_rfl) (by simp) ?_
  refine AllReadyH.cons rfl (fun K hK => ?_) AllReadyH.nil
  go_simp
  go_wp2_with (refine (crwith _ hHeld).mono ?_; rintro r w18 ⟨rfl, hS6⟩)
  refine hK.out _ _ hS6 (fun hHeld => ?_)
  clear hK K
  refine wpAnyH_take (i := 19) (v := ?v19) rfl (by kernel_rfl) (by kernel_rfl) (by kernel_rfl) (fun _ _ _ h => h) (Or.inl ⟨by rfl, ?hy19⟩) hHeld ?rest19
  case hy19 => (intro w hSw; clear hSw; go_simp; try with_reducible rfl)
  try simp only [List.getElem_toArray]
  try simp only [List.getElem_cons_succ]
  try simp only [List.getElem_cons_zero]
  try simp only [Act.put]
  try simp only [List.setIfInBounds_toArray]
  try simp only [List.set_cons_succ]
  try simp only [List.set_cons_zero]
  refine wpAnyH_take (i := 20) (v := ?v20) rfl (by kernel_rfl) (by kernel_rfl) (by kernel_rfl) (fun _ _ _ h => h) (Or.inl ⟨by rfl, ?hy20⟩) hHeld ?rest20
  case hy20 => (intro w hSw; clear hSw; go_simp; try with_reducible rfl)
  try simp only [List.getElem_toArray]
  try simp only [List.getElem_cons_succ]
  try simp only [List.getElem_cons_zero]
  try simp only [Act.put]
  try simp only [List.setIfInBounds_toArray]
  try simp only [List.set_cons_succ]
  try simp only [List.set_cons_zero]
  refine wpAnyH_take (i := 21) (v := ?v21) rfl (by kernel_rfl) (by kernel_rfl) (by kernel_rfl) (fun _ _ _ h => h) (Or.inl ⟨by rfl, ?hy21⟩) hHeld ?rest21
  case hy21 => (intro w hSw; clear hSw; go_simp; try with_reducible rfl)
  try simp only [List.getElem_toArray]
  try simp only [List.getElem_cons_succ]
  try simp only [List.getElem_cons_zero]
  try simp only [Act.put]
  try simp only [List.setIfInBounds_toArray]
  try simp only [List.set_cons_succ]
  try simp only [List.set_cons_zero]
  refine wpAnyH_done (by kernel_rfl) ?_ _
  have hfin := hb0.trans (hHeld.2.mono hb0.size)
  clear hHeld hS1 hS2 hS3 hS4 hS5 hS6
  go_wp2_with fail
  go_ret
  exact ⟨rfl, hfin⟩

set_option maxRecDepth 100000 in
theorem lifted (os : Os) (started : os.Started) (H : Type) (enc : TypeId × Value → H) :
    ReturnsInHanded {} Try.checked os 4 .any (Rows.frameLanesSpec.pre6 enc Try.prog Try.f4 Rows.frameLanesRow.domain false) (Rows.frameLanesSpec.post enc Try.prog Try.f4 false true false false) := by
  refine returnsInHanded_of_change_sized (C := Try.checked) own started (by kernel_rfl) Try.func4
    (ChangeSpec.witness6 (enc := enc) (C := Try.checked) false ⟨#[], #[.agg #[.int .i64 0, .int .i64 0, .int .i64 0, .int .u64 0, .int .u64 0, .string ByteArray.empty, .int .i64 0, .int .i64 0, .int .i64 0, .int .u64 0, .int .u64 0, .string ByteArray.empty, .int .i64 0, .int .i64 0, .int .i64 0, .int .u64 0, .int .u64 0, .string ByteArray.empty, .int .i64 0, .int .i64 0, .int .i64 0, .int .u64 0, .int .u64 0, .string ByteArray.empty, .int .i64 0, .int .i64 0, .int .i64 0, .int .u64 0, .int .u64 0, .string ByteArray.empty, .int .i64 0, .int .i64 0, .int .i64 0, .int .u64 0, .int .u64 0, .string ByteArray.empty], .int .i64 0, .slice none 0 0], []⟩ 8 (by kernel_rfl) (by kernel_rfl) (by kernel_rfl) (by kernel_rfl)) ?_
  intro W base args ds gs before hval0 hW hcnd hsz0 _
  have hval : ∀ (j : Nat) t v, Try.f4.params[j]? = some t → args[j]? = some v → Value.okWide Try.prog W .any base t v := hval0
  have hsz : (DataW.weightsEach Try.prog (Try.f4.params.toList ++ Rows.frameLanesSpec.plain.varTypes Try.prog) (ds ++ gs)).all (· ≤ reachBytes) = true := hsz0
  have hW' := hW
  obtain ⟨p, q, hA0, hV, rfl, hfz, hnd⟩ := hW
  have hA : DataW.TrodAll enc Try.prog W 0 (fun _ => true) true Try.f4.params.toList args.toList ds p := hA0
  rw [Try.params4] at hA hval hsz

  obtain ⟨v0, vs0, d0, ds0, p0, q0, hargs, rfl, rfl, h0, r0⟩ := trodAll_cons hA
  obtain ⟨v1, vs1, d1, ds1, p1, q1, rfl, rfl, rfl, h1, r1⟩ := trodAll_cons r0
  obtain ⟨v2, vs2, d2, ds2, p2, q2, rfl, rfl, rfl, h2, r2⟩ := trodAll_cons r1
  obtain ⟨rfl, rfl, rfl⟩ := trodAll_nil r2
  obtain rfl : args = #[v0, v1, v2] := by cases args; simp_all
  obtain ⟨rfl, rfl⟩ := trodVars_none hV
  obtain ⟨F0, rfl⟩ := open_frame (by obtain ⟨cs, h1, _⟩ := (by simpa only [Value.okWide, Try.underlying27] using hval 0 27 v0 rfl rfl : ∃ cs, v0 = .agg cs ∧ _); exact ⟨cs, h1⟩) h0
  obtain ⟨a1, rfl, rfl, rfl, w1⟩ := open_int Try.underlying3 (hval 1 3 v1 rfl rfl) h1
  obtain ⟨la2, L2, lc2, rfl, lm2, hS2⟩ := open_list (okWide_slice Try.underlying36 (hval 2 36 v2 rfl rfl)) h2
  have hA2 := hA0
  clear hA0 hval0 hsz0
  simp only [List.append_nil] at hW'
  refine (walk F0 a1 w1 la2 L2 lc2 lm2 W hS2).mono fun e W' ⟨he, bel⟩ => ?_
  subst he
  exact ⟨_, rfl, _, _, _, [], _, [], hW', trodAll_mk1 (shut_bool Try.underlying4 _), (stays_all laidOut bel (by kernel_rfl) hA2), rfl, bel.frame _, fun h => by cases h⟩

theorem over : Rows.frameLanesRow.holds Try.pinned (OpenSpec.ofChange Rows.frameLanesSpec) :=
  OpenClaim.holds_of_wide 4 Try.f4 rfl rfl rfl rfl rfl rfl rfl ⟨rfl, rfl, rfl, rfl, rfl⟩ rfl rfl rfl rfl rfl (by kernel_rfl) Try.func4 (by kernel_rfl)
    (of_decide_eq_true (by kernel_rfl)) (by unfold Func.isWrapper; first | (rw [if_pos (by decide +kernel)]; kernel_rfl) | (rw [if_neg (by decide +kernel)]; exact ⟨rfl, rfl⟩))
    (fun os started H enc _ => lifted os started H enc)

end Go.Proofs.Ytdpghocgljnobaa.frameLanes
namespace Go.Proofs.Ytdpghocgljnobaa

theorem frameLanes_holds : Rows.FrameLanesSaid := frameLanes.over
#print axioms frameLanes_holds

end Go.Proofs.Ytdpghocgljnobaa
