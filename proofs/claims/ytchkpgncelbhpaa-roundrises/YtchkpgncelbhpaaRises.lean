/-
  What may be delivered still may when counts are higher, and nobody's position falls: the law RoundRises returns true for every input.
  No condition beyond the form's own.
-/
import Derived.Test.YtchkpgncelbhpaaRows
import Derived.Test.YtchkpgncelbhpaaRdN
import Derived.Test.YtchkpgncelbhpaaRdB
import Derived.Test.YtchkpgncelbhpaaRdC
import Derived.Test.YtchkpgncelbhpaaRdF
import Derived.Test.YtchkpgncelbhpaaRdT
import Derived.WalkKit
import Derived.ProofKit
import Derived.OpenShut
import Derived.ShutString
import Derived.SizedLaws
import Derived.ChangeOld
import Derived.Below
namespace Go.Proofs.Ytchkpgncelbhpaa.roundRises
open Go.Sort Go.ChangeShapes Go.WideShapes Go.ChangeAt Go.RowKit
open Go.ChangeMaps (open_string shut_string)
set_option linter.unusedVariables false
set_option maxRecDepth 10000

theorem own : ownKnob Try.prog.godebug = none := by kernel_rfl
theorem length_bytes (s : ByteArray) : s.data.toList.length = s.size := by rw [Array.length_toList]; rfl

def upTo (c x : Nat → Nat) (j : Nat) : Nat → Nat := fun i => if i < j then max (c i) (x i) else c i
theorem up_zero (c x : Nat → Nat) : mbc (upTo c x 0) = mbc c := rfl
theorem up_at (c x : Nat → Nat) (j : Nat) : upTo c x (j + 1) j = max (c j) (x j) := by simp [upTo]
theorem up_set (c x : Nat → Nat) (j : Nat) (hj : j < 8) : (mbc (upTo c x j)).setIfInBounds j (.int .u32 (max (c j) (x j) : Nat)) = mbc (upTo c x (j + 1)) := by
  rw [mbc_set _ j _ hj]
  apply mbc_ext
  intro i _
  unfold upTo
  by_cases e : i = j
  · subst e; simp
  · by_cases l : i < j
    · simp [e, l, show i < j + 1 by omega]
    · simp [e, l, show ¬ i < j + 1 by omega]
theorem up_ge (c x : Nat → Nat) (i : Nat) (h : i < 8) : c i ≤ upTo c x 8 i := by simp only [upTo, if_pos h]; omega
theorem up_lt (c x : Nat → Nat) (hc : ∀ i, c i < 4294967296) (hx : ∀ i, x i < 4294967296) (i : Nat) : upTo c x 8 i < 4294967296 := by
  have := hc i
  have := hx i
  simp only [upTo]
  split <;> omega
def endTo (c x : Nat → Nat) (j : Nat) : Bool := (List.range j).any fun i => decide (max (c i) (x i) = 4294967295)
theorem end_next (c x : Nat → Nat) (j : Nat) : endTo c x (j + 1) = (endTo c x j || decide (max (c j) (x j) = 4294967295)) := by simp [endTo, List.range_succ]
theorem end_no (c x : Nat → Nat) (hc : ∀ i, c i < 4294967296) (hx : ∀ i, x i < 4294967296) (h : endTo c x 8 = false) (i : Nat) (hi : i < 8) : upTo c x 8 i < 4294967295 := by
  have h1 := up_lt c x hc hx i
  unfold endTo at h
  rw [List.any_eq_false] at h
  have h2 := h i (List.mem_range.2 hi)
  rw [decide_eq_true_eq] at h2
  simp only [upTo, if_pos hi] at h1 ⊢
  omega

set_option maxHeartbeats 8000000 in
theorem walk (c : Nat → Nat) (kc : ∀ i, c i < 4294967296) (m : Nat → Nat) (x : Nat → Nat) (p : Pl) (kx : ∀ i, x i < 4294967296) (kp : p.r < 4294967296) (w : World) : Calls Try.prog 5 #[.agg (mbc c), .agg (mbc m), .agg (rpc x p)] w fun e w' => e = .returned (.bool true) ∧ Below w.heap.size w w' := by
  have HR : Hid (p.r < 4294967296) := kp
  have HC : Hid (∀ i, c i < 4294967296) := kc
  have HX : Hid (∀ i, x i < 4294967296) := kx
  clear kc kp kx
  obtain ⟨a0, a1, a2, a3, hB⟩ := four_blk (T0 := 24) (T1 := 25) (T2 := 41) (T3 := 24) (C0 := mbc c) (C1 := mbc m) (C2 := rpc x p) (C3 := mbc c) (w := w) rfl
  obtain ⟨b0, b1, b2, _⟩ := three_blk (T0 := 24) (T1 := 25) (T2 := 41) (C0 := mbc c) (C1 := mbc m) (C2 := rpc x p) (w := w) rfl
  go_enter Try.func5, Try.ntmps5
  go_upto_region 2 with (first | refine load_blk rfl 24 _ rfl b0 rfl Try.underlying24 rfl sizeCt ?_ | refine alloc_zero zeroCt rfl rfl ?_ | refine store_new rfl 24 _ _ rfl (cells := mbc c) rfl rfl sizeCt rfl (mbc_one c) ?_)
  try simp only [Act.put, List.setIfInBounds_toArray, List.set_cons_zero, List.set_cons_succ]
  try simp only [alloc_size]
  generalize (((w.alloc (Obj.cells (mbc c) 24)).alloc (Obj.cells (mbc m) 25)).alloc (Obj.cells (rpc x p) 41)).alloc (Obj.cells (mbc c) 24) = W at a0 a1 a2 a3 hB ⊢
  clear b0 b1 b2
  rw [← up_zero c x] at a3
  go_wp2_with fail
  go_loopw [8, 9] (fun ev iv wr => ∃ j : Nat, j ≤ 8 ∧ iv = .int .i64 j ∧ ev = .bool (endTo c x j) ∧ Blk w.heap.size (mbc c) 24 wr ∧ Blk (w.heap.size + 1) (mbc m) 25 wr ∧ Blk (w.heap.size + 1 + 1) (rpc x p) 41 wr ∧ Blk (w.heap.size + 1 + 1 + 1) (mbc (upTo c x j)) 24 wr ∧ Below w.heap.size w wr) (fun _ iv _ => 8 - (intOf iv).toNat)
  case atStart => exact ⟨0, by omega, rfl, rfl, a0, a1, a2, a3, hB⟩
  case round =>
    clear a0 a1 a2 a3 hB
    obtain ⟨j, hj, rfl, rfl, a0, a1, a2, a3, hB⟩ := hrel
    by_cases hj8 : j < 8
    · have j0 : (j : Int) < 8 := by omega
      have j1 : (0 : Int) ≤ (j : Int) := by omega
      obtain ⟨D, hD⟩ : ∃ D, max (c j) (x j) = D := ⟨_, rfl⟩
      have HD : Hid (max (c j) (x j) = D) := hD
      have hst : (mbc (upTo c x j)).setIfInBounds j (.int .u32 (D : Int)) = mbc (upTo c x (j + 1)) := by rw [← hD]; exact up_set c x j hj8
      obtain ⟨z, hz⟩ : ∃ z, decide (D = 4294967295) = z := ⟨_, rfl⟩
      have hz' : ((D : Int) == 4294967295) = z := by rw [← hz, Bool.eq_iff_iff, beq_iff_eq, decide_eq_true_iff]; omega
      obtain ⟨E, hE⟩ : ∃ E, endTo c x j = E := ⟨_, rfl⟩
      rw [hE]
      have HE : Hid (endTo c x (j + 1) = (E || z)) := by
        show endTo c x (j + 1) = (E || z)
        rw [end_next, hD, hz, hE]
      clear hz hE
      by_cases h1 : c j < x j
      · obtain rfl : x j = D := by rw [← hD]; exact (Nat.max_eq_right (by omega)).symm
        have h2 : ¬ x j < c j := by omega
        have h3 : c j ≤ x j := by omega
        clear hD
        have d0 := a3.drew
        have hC0 : Below w.heap.size w wr.drew := hB.drew
        clear a3 hB
        go_wp2_with fail
        refine wp_region_held_drew (S := fun w' => Blk w.heap.size (mbc c) 24 w' ∧ Blk (w.heap.size + 1) (mbc m) 25 w' ∧ Blk (w.heap.size + 1 + 1) (rpc x p) 41 w') (by kernel_rfl) ⟨a0, a1, a2⟩ (fun hHeld => ?_)
        refine wpAnyH_take (i := 0) (v := ?v1) rfl (by kernel_rfl) (by kernel_rfl) (by kernel_rfl) (fun _ _ _ h => h) (Or.inl ⟨by rfl, ?hy1⟩) hHeld ?rest1
        case hy1 => (intro w hSw; clear hSw; go_simp; try with_reducible rfl)
        try simp only [List.getElem_toArray]
        try simp only [List.getElem_cons_succ]
        try simp only [List.getElem_cons_zero]
        try simp only [Act.put]
        try simp only [List.setIfInBounds_toArray]
        try simp only [List.set_cons_succ]
        try simp only [List.set_cons_zero]
        refine wpAnyH_take (i := 1) (v := ?v2) rfl (by kernel_rfl) (by kernel_rfl) (by kernel_rfl) (fun _ _ _ h => h) (Or.inl ⟨by rfl, ?hy2⟩) hHeld ?rest2
        case hy2 => (intro w hSw; clear hSw; go_simp; try with_reducible rfl)
        try simp only [List.getElem_toArray]
        try simp only [List.getElem_cons_succ]
        try simp only [List.getElem_cons_zero]
        try simp only [Act.put]
        try simp only [List.setIfInBounds_toArray]
        try simp only [List.set_cons_succ]
        try simp only [List.set_cons_zero]
        refine wpAnyH_take (i := 2) (v := ?v3) rfl (by kernel_rfl) (by kernel_rfl) (by kernel_rfl) (fun _ _ _ h => h) (Or.inl ⟨by rfl, ?hy3⟩) hHeld ?rest3
        case hy3 => (intro w hSw; clear hSw; go_simp; try with_reducible rfl)
        try simp only [List.getElem_toArray]
        try simp only [List.getElem_cons_succ]
        try simp only [List.getElem_cons_zero]
        try simp only [Act.put]
        try simp only [List.setIfInBounds_toArray]
        try simp only [List.set_cons_succ]
        try simp only [List.set_cons_zero]
        refine wpAnyH_take (i := 3) (v := ?v4) rfl (by kernel_rfl) (by kernel_rfl) (by kernel_rfl) (fun _ _ _ h => h) (Or.inl ⟨by rfl, ?hy4⟩) hHeld ?rest4
        case hy4 => (intro w hSw; have hc := hSw.1.cell j _ (mbc_get c j hj8); clear hSw; go_simp; try with_reducible rfl)
        try simp only [List.getElem_toArray]
        try simp only [List.getElem_cons_succ]
        try simp only [List.getElem_cons_zero]
        try simp only [Act.put]
        try simp only [List.setIfInBounds_toArray]
        try simp only [List.set_cons_succ]
        try simp only [List.set_cons_zero]
        refine wpAnyH_take (i := 4) (v := ?v5) rfl (by kernel_rfl) (by kernel_rfl) (by kernel_rfl) (fun _ _ _ h => h) (Or.inl ⟨by rfl, ?hy5⟩) hHeld ?rest5
        case hy5 => (intro w hSw; clear hSw; go_simp; try with_reducible rfl)
        try simp only [List.getElem_toArray]
        try simp only [List.getElem_cons_succ]
        try simp only [List.getElem_cons_zero]
        try simp only [Act.put]
        try simp only [List.setIfInBounds_toArray]
        try simp only [List.set_cons_succ]
        try simp only [List.set_cons_zero]
        refine wpAnyH_take (i := 5) (v := ?v6) rfl (by kernel_rfl) (by kernel_rfl) (by kernel_rfl) (fun _ _ _ h => h) (Or.inl ⟨by rfl, ?hy6⟩) hHeld ?rest6
        case hy6 => (intro w hSw; clear hSw; go_simp; try with_reducible rfl)
        try simp only [List.getElem_toArray]
        try simp only [List.getElem_cons_succ]
        try simp only [List.getElem_cons_zero]
        try simp only [Act.put]
        try simp only [List.setIfInBounds_toArray]
        try simp only [List.set_cons_succ]
        try simp only [List.set_cons_zero]
        refine wpAnyH_take (i := 6) (v := ?v7) rfl (by kernel_rfl) (by kernel_rfl) (by kernel_rfl) (fun _ _ _ h => h) (Or.inl ⟨by rfl, ?hy7⟩) hHeld ?rest7
        case hy7 => (intro w hSw; clear hSw; go_simp; try with_reducible rfl)
        try simp only [List.getElem_toArray]
        try simp only [List.getElem_cons_succ]
        try simp only [List.getElem_cons_zero]
        try simp only [Act.put]
        try simp only [List.setIfInBounds_toArray]
        try simp only [List.set_cons_succ]
        try simp only [List.set_cons_zero]
        refine wpAnyH_take (i := 7) (v := ?v8) rfl (by kernel_rfl) (by kernel_rfl) (by kernel_rfl) (fun _ _ _ h => h) (Or.inl ⟨by rfl, ?hy8⟩) hHeld ?rest8
        case hy8 => (intro w hSw; have hc := hSw.2.2.cell j _ (rpc_get x p j hj8); clear hSw; go_simp; try with_reducible rfl)
        try simp only [List.getElem_toArray]
        try simp only [List.getElem_cons_succ]
        try simp only [List.getElem_cons_zero]
        try simp only [Act.put]
        try simp only [List.setIfInBounds_toArray]
        try simp only [List.set_cons_succ]
        try simp only [List.set_cons_zero]
        refine wpAnyH_take (i := 8) (v := ?v9) rfl (by kernel_rfl) (by kernel_rfl) (by kernel_rfl) (fun _ _ _ h => h) (Or.inl ⟨by rfl, ?hy9⟩) hHeld ?rest9
        case hy9 => (intro w hSw; clear hSw; go_simp; try with_reducible rfl)
        try simp only [List.getElem_toArray]
        try simp only [List.getElem_cons_succ]
        try simp only [List.getElem_cons_zero]
        try simp only [Act.put]
        try simp only [List.setIfInBounds_toArray]
        try simp only [List.set_cons_succ]
        try simp only [List.set_cons_zero]
        refine wpAnyH_take (i := 9) (v := ?v10) rfl (by kernel_rfl) (by kernel_rfl) (by kernel_rfl) (fun _ _ _ h => h) (Or.inl ⟨by rfl, ?hy10⟩) hHeld ?rest10
        case hy10 => (intro w hSw; clear hSw; go_simp; try with_reducible rfl)
        try simp only [List.getElem_toArray]
        try simp only [List.getElem_cons_succ]
        try simp only [List.getElem_cons_zero]
        try simp only [Act.put]
        try simp only [List.setIfInBounds_toArray]
        try simp only [List.set_cons_succ]
        try simp only [List.set_cons_zero]
        refine wpAnyH_ready (rs := [10]) (by kernel_rfl) (by simp) ?_
        refine AllReadyH.cons rfl (fun K hK => ?_) (AllReadyH.nil)
        rw [if_pos (by rfl)]
        refine wp_store_one 22 _ _ rfl (off := j) (.int .u32 (x j : Int)) d0 rfl rfl rfl rfl sizeU32 (by rw [mbc_size]; omega) ?_
        intro u1 hn hk
        rw [hst] at hn
        have hC1 := hC0.trans (hk.below (by simp; omega) hC0.size)
        have d1 := hn
        refine hK.out _ _ ⟨hHeld.1.kp1 hk (by omega), hHeld.2.1.kp1 hk (by omega), hHeld.2.2.kp1 hk (by omega)⟩ (fun hHeld => ?_)
        clear hK K hk hn hC0 d0
        try simp only [List.getElem_toArray]
        try simp only [List.getElem_cons_succ]
        try simp only [List.getElem_cons_zero]
        try simp only [Act.put]
        try simp only [List.setIfInBounds_toArray]
        try simp only [List.set_cons_succ]
        try simp only [List.set_cons_zero]
        refine wpAnyH_done (by kernel_rfl) ?_ _
        obtain ⟨a0, a1, a2⟩ := hHeld
        have a3 := d1
        have hB := hC1
        rename_i ws
        clear d1 hC1
        have q3 := a3.cell j _ ((mbc_get _ j hj8).trans (by rw [up_at]))
        rw [HD.out] at q3
        cases E <;> cases z
        all_goals
          go_wp2_with fail
          exact ⟨⟨j + 1, by omega, by go_num, congrArg Value.bool HE.out.symm, a0, a1, a2, a3, hB⟩, by simp [intOf]; omega⟩
      · have e : c j = D := by rw [← hD]; exact (Nat.max_eq_left (by omega)).symm
        subst e
        clear hD
        have d0 := a3.drew
        have hC0 : Below w.heap.size w wr.drew := hB.drew
        clear a3 hB
        go_wp2_with fail
        refine wp_region_held_drew (S := fun w' => Blk w.heap.size (mbc c) 24 w' ∧ Blk (w.heap.size + 1) (mbc m) 25 w' ∧ Blk (w.heap.size + 1 + 1) (rpc x p) 41 w') (by kernel_rfl) ⟨a0, a1, a2⟩ (fun hHeld => ?_)
        refine wpAnyH_take (i := 0) (v := ?v11) rfl (by kernel_rfl) (by kernel_rfl) (by kernel_rfl) (fun _ _ _ h => h) (Or.inl ⟨by rfl, ?hy11⟩) hHeld ?rest11
        case hy11 => (intro w hSw; clear hSw; go_simp; try with_reducible rfl)
        try simp only [List.getElem_toArray]
        try simp only [List.getElem_cons_succ]
        try simp only [List.getElem_cons_zero]
        try simp only [Act.put]
        try simp only [List.setIfInBounds_toArray]
        try simp only [List.set_cons_succ]
        try simp only [List.set_cons_zero]
        refine wpAnyH_take (i := 1) (v := ?v12) rfl (by kernel_rfl) (by kernel_rfl) (by kernel_rfl) (fun _ _ _ h => h) (Or.inl ⟨by rfl, ?hy12⟩) hHeld ?rest12
        case hy12 => (intro w hSw; clear hSw; go_simp; try with_reducible rfl)
        try simp only [List.getElem_toArray]
        try simp only [List.getElem_cons_succ]
        try simp only [List.getElem_cons_zero]
        try simp only [Act.put]
        try simp only [List.setIfInBounds_toArray]
        try simp only [List.set_cons_succ]
        try simp only [List.set_cons_zero]
        refine wpAnyH_take (i := 2) (v := ?v13) rfl (by kernel_rfl) (by kernel_rfl) (by kernel_rfl) (fun _ _ _ h => h) (Or.inl ⟨by rfl, ?hy13⟩) hHeld ?rest13
        case hy13 => (intro w hSw; clear hSw; go_simp; try with_reducible rfl)
        try simp only [List.getElem_toArray]
        try simp only [List.getElem_cons_succ]
        try simp only [List.getElem_cons_zero]
        try simp only [Act.put]
        try simp only [List.setIfInBounds_toArray]
        try simp only [List.set_cons_succ]
        try simp only [List.set_cons_zero]
        refine wpAnyH_take (i := 3) (v := ?v14) rfl (by kernel_rfl) (by kernel_rfl) (by kernel_rfl) (fun _ _ _ h => h) (Or.inl ⟨by rfl, ?hy14⟩) hHeld ?rest14
        case hy14 => (intro w hSw; have hc := hSw.1.cell j _ (mbc_get c j hj8); clear hSw; go_simp; try with_reducible rfl)
        try simp only [List.getElem_toArray]
        try simp only [List.getElem_cons_succ]
        try simp only [List.getElem_cons_zero]
        try simp only [Act.put]
        try simp only [List.setIfInBounds_toArray]
        try simp only [List.set_cons_succ]
        try simp only [List.set_cons_zero]
        refine wpAnyH_take (i := 4) (v := ?v15) rfl (by kernel_rfl) (by kernel_rfl) (by kernel_rfl) (fun _ _ _ h => h) (Or.inl ⟨by rfl, ?hy15⟩) hHeld ?rest15
        case hy15 => (intro w hSw; clear hSw; go_simp; try with_reducible rfl)
        try simp only [List.getElem_toArray]
        try simp only [List.getElem_cons_succ]
        try simp only [List.getElem_cons_zero]
        try simp only [Act.put]
        try simp only [List.setIfInBounds_toArray]
        try simp only [List.set_cons_succ]
        try simp only [List.set_cons_zero]
        refine wpAnyH_take (i := 5) (v := ?v16) rfl (by kernel_rfl) (by kernel_rfl) (by kernel_rfl) (fun _ _ _ h => h) (Or.inl ⟨by rfl, ?hy16⟩) hHeld ?rest16
        case hy16 => (intro w hSw; clear hSw; go_simp; try with_reducible rfl)
        try simp only [List.getElem_toArray]
        try simp only [List.getElem_cons_succ]
        try simp only [List.getElem_cons_zero]
        try simp only [Act.put]
        try simp only [List.setIfInBounds_toArray]
        try simp only [List.set_cons_succ]
        try simp only [List.set_cons_zero]
        refine wpAnyH_take (i := 6) (v := ?v17) rfl (by kernel_rfl) (by kernel_rfl) (by kernel_rfl) (fun _ _ _ h => h) (Or.inl ⟨by rfl, ?hy17⟩) hHeld ?rest17
        case hy17 => (intro w hSw; clear hSw; go_simp; try with_reducible rfl)
        try simp only [List.getElem_toArray]
        try simp only [List.getElem_cons_succ]
        try simp only [List.getElem_cons_zero]
        try simp only [Act.put]
        try simp only [List.setIfInBounds_toArray]
        try simp only [List.set_cons_succ]
        try simp only [List.set_cons_zero]
        refine wpAnyH_take (i := 7) (v := ?v18) rfl (by kernel_rfl) (by kernel_rfl) (by kernel_rfl) (fun _ _ _ h => h) (Or.inl ⟨by rfl, ?hy18⟩) hHeld ?rest18
        case hy18 => (intro w hSw; have hc := hSw.2.2.cell j _ (rpc_get x p j hj8); clear hSw; go_simp; try with_reducible rfl)
        try simp only [List.getElem_toArray]
        try simp only [List.getElem_cons_succ]
        try simp only [List.getElem_cons_zero]
        try simp only [Act.put]
        try simp only [List.setIfInBounds_toArray]
        try simp only [List.set_cons_succ]
        try simp only [List.set_cons_zero]
        refine wpAnyH_take (i := 8) (v := ?v19) rfl (by kernel_rfl) (by kernel_rfl) (by kernel_rfl) (fun _ _ _ h => h) (Or.inl ⟨by rfl, ?hy19⟩) hHeld ?rest19
        case hy19 => (intro w hSw; clear hSw; go_simp; try with_reducible rfl)
        try simp only [List.getElem_toArray]
        try simp only [List.getElem_cons_succ]
        try simp only [List.getElem_cons_zero]
        try simp only [Act.put]
        try simp only [List.setIfInBounds_toArray]
        try simp only [List.set_cons_succ]
        try simp only [List.set_cons_zero]
        refine wpAnyH_take (i := 9) (v := ?v20) rfl (by kernel_rfl) (by kernel_rfl) (by kernel_rfl) (fun _ _ _ h => h) (Or.inl ⟨by rfl, ?hy20⟩) hHeld ?rest20
        case hy20 => (intro w hSw; clear hSw; go_simp; try with_reducible rfl)
        try simp only [List.getElem_toArray]
        try simp only [List.getElem_cons_succ]
        try simp only [List.getElem_cons_zero]
        try simp only [Act.put]
        try simp only [List.setIfInBounds_toArray]
        try simp only [List.set_cons_succ]
        try simp only [List.set_cons_zero]
        refine wpAnyH_ready (rs := [10]) (by kernel_rfl) (by simp) ?_
        refine AllReadyH.cons rfl (fun K hK => ?_) (AllReadyH.nil)
        rw [if_pos (by rfl)]
        refine wp_store_one 22 _ _ rfl (off := j) (.int .u32 (c j : Int)) d0 rfl rfl rfl rfl sizeU32 (by rw [mbc_size]; omega) ?_
        intro u1 hn hk
        rw [hst] at hn
        have hC1 := hC0.trans (hk.below (by simp; omega) hC0.size)
        have d1 := hn
        refine hK.out _ _ ⟨hHeld.1.kp1 hk (by omega), hHeld.2.1.kp1 hk (by omega), hHeld.2.2.kp1 hk (by omega)⟩ (fun hHeld => ?_)
        clear hK K hk hn hC0 d0
        try simp only [List.getElem_toArray]
        try simp only [List.getElem_cons_succ]
        try simp only [List.getElem_cons_zero]
        try simp only [Act.put]
        try simp only [List.setIfInBounds_toArray]
        try simp only [List.set_cons_succ]
        try simp only [List.set_cons_zero]
        refine wpAnyH_done (by kernel_rfl) ?_ _
        obtain ⟨a0, a1, a2⟩ := hHeld
        have a3 := d1
        have hB := hC1
        rename_i ws
        clear d1 hC1
        have q3 := a3.cell j _ ((mbc_get _ j hj8).trans (by rw [up_at]))
        rw [HD.out] at q3
        cases E <;> cases z
        all_goals
          go_wp2_with fail
          exact ⟨⟨j + 1, by omega, by go_num, congrArg Value.bool HE.out.symm, a0, a1, a2, a3, hB⟩, by simp [intOf]; omega⟩
    · obtain rfl : j = 8 := by omega
      have HE : Hid (endTo c x 8 = false → ∀ i, i < 8 → upTo c x 8 i < 4294967295) := end_no c x HC.out HX.out
      have HU : Hid (∀ i, upTo c x 8 i < 4294967296) := up_lt c x HC.out HX.out
      have HG : Hid (∀ i ∈ lst m, c i ≤ upTo c x 8 i) := fun i hi => up_ge c x i ((mem_lst m i).1 hi).1
      generalize upTo c x 8 = D at *
      obtain ⟨E, hE⟩ : ∃ E, endTo c x 8 = E := ⟨_, rfl⟩
      rw [hE] at HE ⊢
      rw [show ((8 : Nat) : Int) = 8 from rfl]
      clear hE HX
      go_wp2_with fail
      go_loopw [10] (fun iv wx => ∃ s : Nat, s ≤ 4 ∧ iv = .int .i64 s ∧ Blk w.heap.size (mbc c) 24 wx ∧ Blk (w.heap.size + 1) (mbc m) 25 wx ∧ Blk (w.heap.size + 1 + 1) (rpc x p) 41 wx ∧ Blk (w.heap.size + 1 + 1 + 1) (mbc D) 24 wx ∧ Below w.heap.size w wx) (fun iv _ => 4 - (intOf iv).toNat)
      case atStart => exact ⟨0, by omega, rfl, a0, a1, a2, a3, hB⟩
      case round =>
        clear a0 a1 a2 a3 hB
        obtain ⟨s, hs, rfl, a0, a1, a2, a3, hB⟩ := hrel
        rename World => ws
        by_cases hs4 : s < 4
        · have s0 : (s : Int) < 4 := by omega
          have pA := svc_ok c m p (s : Int) HR.out
          have pB := svc_ok D m p (s : Int) HR.out
          have hr := svc_rise c D m HG.out p (s : Int)
          generalize svcB c m p (s : Int) = u at pA hr
          generalize svcB D m p (s : Int) = v at pB hr
          cases u with
          | false =>
            clear hr pB
            go_wp2_with (first | refine load_blk rfl 24 _ rfl a0 rfl Try.underlying24 rfl sizeCt ?_ | refine load_blk rfl 24 _ rfl a3 rfl Try.underlying24 rfl sizeCt ?_ | refine load_blk rfl 25 _ rfl a1 rfl Try.underlying25 rfl sizeMb ?_ | refine load_part rfl 27 _ rfl (o := 8) a2 rfl p.vals (rpc_p x p) Try.underlying27 rfl sizePl ?_)
            refine (pA _).mono ?_
            rintro r w4 ⟨rfl, hb⟩
            replace a0 := a0.below hb
            replace a1 := a1.below hb
            replace a2 := a2.below hb
            replace a3 := a3.below hb
            replace hB := hB.trans (hb.mono hB.size)
            clear hb pA
            go_wp2_with fail
            exact ⟨⟨s + 1, by omega, by go_num, a0, a1, a2, a3, hB⟩, by simp [intOf]; omega⟩
          | true =>
            have e := hr rfl
            subst e
            clear hr
            go_wp2_with (first | refine load_blk rfl 24 _ rfl a0 rfl Try.underlying24 rfl sizeCt ?_ | refine load_blk rfl 24 _ rfl a3 rfl Try.underlying24 rfl sizeCt ?_ | refine load_blk rfl 25 _ rfl a1 rfl Try.underlying25 rfl sizeMb ?_ | refine load_part rfl 27 _ rfl (o := 8) a2 rfl p.vals (rpc_p x p) Try.underlying27 rfl sizePl ?_)
            refine (pA _).mono ?_
            rintro r w4 ⟨rfl, hb⟩
            replace a0 := a0.below hb
            replace a1 := a1.below hb
            replace a2 := a2.below hb
            replace a3 := a3.below hb
            replace hB := hB.trans (hb.mono hB.size)
            clear hb pA
            go_wp2_with (first | refine load_want rfl 24 _ rfl a0 rfl Try.underlying24 rfl sizeCt ?_ | refine load_want rfl 24 _ rfl a3 rfl Try.underlying24 rfl sizeCt ?_ | refine load_want rfl 25 _ rfl a1 rfl Try.underlying25 rfl sizeMb ?_ | refine load_wpart rfl 27 _ rfl (o := 8) a2 rfl p.vals (rpc_p x p) Try.underlying27 rfl sizePl ?_)
            refine (pB _).mono ?_
            rintro r w5 ⟨rfl, hb⟩
            replace a0 := a0.below hb
            replace a1 := a1.below hb
            replace a2 := a2.below hb
            replace a3 := a3.below hb
            replace hB := hB.trans (hb.mono hB.size)
            clear hb pB
            go_wp2_with fail
            exact ⟨⟨s + 1, by omega, by go_num, a0, a1, a2, a3, hB⟩, by simp [intOf]; omega⟩
        · obtain rfl : s = 4 := by omega
          rw [show ((4 : Nat) : Int) = 4 from rfl]
          have pA := pos_ok D m HU.out
          have pB := pos_ok c m HC.out
          have pC := bef_ok (posP D m) (posP c m)
          have hn : E = false → befB (posP D m) (posP c m) = false := fun h => pos_rise c D m HG.out (fun i hi => HE.out h i ((mem_lst m i).1 hi).1)
          generalize posP D m = P at *
          generalize posP c m = Q at *
          generalize befB P Q = v at pC hn
          have lc := a0.regrown
          have lm := a1.regrown
          have ld := a3.regrown
          have r0 : ∀ d' os, Calls Try.prog 10 #[] (grow (redrawn ws d') os) fun e w'' => e = .returned (.bool true) ∧ ∃ p : Regrown, w'' = grow (redrawn ws p.d) p.os := fun d' os => Calls.regrown_of (fixed_ok _)
          have r1 : ∀ d' os, Calls Try.prog 15 #[.agg (mbc D), .agg (mbc m)] (grow (redrawn ws d') os) fun e w'' => e = .returned (.agg P.arr) ∧ ∃ p : Regrown, w'' = grow (redrawn ws p.d) p.os := fun d' os => Calls.regrown_of (pA _)
          have r2 : ∀ d' os, Calls Try.prog 15 #[.agg (mbc c), .agg (mbc m)] (grow (redrawn ws d') os) fun e w'' => e = .returned (.agg Q.arr) ∧ ∃ p : Regrown, w'' = grow (redrawn ws p.d) p.os := fun d' os => Calls.regrown_of (pB _)
          have r3 : ∀ d' os, Calls Try.prog 13 #[.agg P.arr, .agg Q.arr] (grow (redrawn ws d') os) fun e w'' => e = .returned (.bool v) ∧ ∃ p : Regrown, w'' = grow (redrawn ws p.d) p.os := fun d' os => Calls.regrown_of (pC _)
          clear pA pB pC a0 a1 a2 a3 HE HU HG HC HR
          cases E with
          | true =>
            clear hn
            go_wp2_with fail
            refine wp_region_quiet_below (by kernel_rfl) (by kernel_rfl) ?_
            repeat (first
              | (go_big_quiet_want; refine quiet_load rfl rfl lc Try.underlying24 rfl sizeCt ?_; simp only [Act.put, List.setIfInBounds_toArray, List.set_cons_zero, List.set_cons_succ]; go_big_quiet_on)
              | (go_big_quiet_want; refine quiet_load rfl rfl lm Try.underlying25 rfl sizeMb ?_; simp only [Act.put, List.setIfInBounds_toArray, List.set_cons_zero, List.set_cons_succ]; go_big_quiet_on)
              | (go_big_quiet_want; refine quiet_load rfl rfl ld Try.underlying24 rfl sizeCt ?_; simp only [Act.put, List.setIfInBounds_toArray, List.set_cons_zero, List.set_cons_succ]; go_big_quiet_on)
              | go_big_quiet_step (first | with_reducible exact r0 _ _ | with_reducible exact r1 _ _ | with_reducible exact r2 _ _ | with_reducible exact r3 _ _))
            refine wpQuiet_nil ?_
            intro _ hw'
            obtain ⟨⟨dq, osq⟩, hw''⟩ := hw'
            have hb := below_regrown ws dq osq
            subst hw''
            generalize grow (redrawn ws dq) osq = w3 at hb ⊢
            replace hB := hB.trans (hb.mono hB.size)
            clear hb
            go_wp2_with fail
            go_ret
            exact ⟨rfl, hB⟩
          | false =>
            have e := hn rfl
            subst e
            clear hn
            go_wp2_with fail
            refine wp_region_quiet_below (by kernel_rfl) (by kernel_rfl) ?_
            repeat (first
              | (go_big_quiet_want; refine quiet_load rfl rfl lc Try.underlying24 rfl sizeCt ?_; simp only [Act.put, List.setIfInBounds_toArray, List.set_cons_zero, List.set_cons_succ]; go_big_quiet_on)
              | (go_big_quiet_want; refine quiet_load rfl rfl lm Try.underlying25 rfl sizeMb ?_; simp only [Act.put, List.setIfInBounds_toArray, List.set_cons_zero, List.set_cons_succ]; go_big_quiet_on)
              | (go_big_quiet_want; refine quiet_load rfl rfl ld Try.underlying24 rfl sizeCt ?_; simp only [Act.put, List.setIfInBounds_toArray, List.set_cons_zero, List.set_cons_succ]; go_big_quiet_on)
              | go_big_quiet_step (first | with_reducible exact r0 _ _ | with_reducible exact r1 _ _ | with_reducible exact r2 _ _ | with_reducible exact r3 _ _))
            refine wpQuiet_nil ?_
            intro _ hw'
            obtain ⟨⟨dq, osq⟩, hw''⟩ := hw'
            have hb := below_regrown ws dq osq
            subst hw''
            generalize grow (redrawn ws dq) osq = w3 at hb ⊢
            replace hB := hB.trans (hb.mono hB.size)
            clear hb
            go_wp2_with fail
            go_ret
            exact ⟨rfl, hB⟩

set_option maxRecDepth 100000 in
theorem lifted (os : Os) (started : os.Started) (H : Type) (enc : TypeId × Value → H) :
    ReturnsInHanded {} Try.checked os 5 .any (Rows.roundRisesSpec.pre6 enc Try.prog Try.f5 Rows.roundRisesRow.domain false) (Rows.roundRisesSpec.post enc Try.prog Try.f5 false true false false) := by
  refine returnsInHanded_of_change_sized (C := Try.checked) own started (by kernel_rfl) Try.func5
    (ChangeSpec.witness6 (enc := enc) (C := Try.checked) false ⟨#[], #[.agg (mbc noMb), .agg (mbc noMb), .agg (rpc noMb Pl.zero)], []⟩ 8 (by kernel_rfl) (by kernel_rfl) (by kernel_rfl) (by kernel_rfl)) ?_
  intro W base args ds gs before hval0 hW hcnd hsz0 _
  have hval : ∀ (j : Nat) t v, Try.f5.params[j]? = some t → args[j]? = some v → Value.okWide Try.prog W .any base t v := hval0
  have hsz : (DataW.weightsEach Try.prog (Try.f5.params.toList ++ Rows.roundRisesSpec.plain.varTypes Try.prog) (ds ++ gs)).all (· ≤ reachBytes) = true := hsz0
  have hW' := hW
  obtain ⟨p, q, hA0, hV, rfl, hfz, hnd⟩ := hW
  have hA : DataW.TrodAll enc Try.prog W 0 (fun _ => true) true Try.f5.params.toList args.toList ds p := hA0
  rw [Try.params5] at hA hval hsz

  obtain ⟨v0, vs0, d0, ds0, p0, q0, hargs, rfl, rfl, h0, r0⟩ := trodAll_cons hA
  obtain ⟨v1, vs1, d1, ds1, p1, q1, rfl, rfl, rfl, h1, r1⟩ := trodAll_cons r0
  obtain ⟨v2, vs2, d2, ds2, p2, q2, rfl, rfl, rfl, h2, r2⟩ := trodAll_cons r1
  obtain ⟨rfl, rfl, rfl⟩ := trodAll_nil r2
  obtain rfl : args = #[v0, v1, v2] := by cases args; simp_all
  obtain ⟨rfl, rfl⟩ := trodVars_none hV
  obtain ⟨c0, rfl, kc0⟩ := open_ct (by obtain ⟨cs, h1, _⟩ := (by simpa only [Value.okWide, Try.underlying24] using hval 0 24 v0 rfl rfl : ∃ cs, v0 = .agg cs ∧ _); exact ⟨cs, h1⟩) h0
  obtain ⟨m1, rfl⟩ := open_mb (by obtain ⟨cs, h1, _⟩ := (by simpa only [Value.okWide, Try.underlying25] using hval 1 25 v1 rfl rfl : ∃ cs, v1 = .agg cs ∧ _); exact ⟨cs, h1⟩) h1
  obtain ⟨x2, y2, rfl, kx2, ky2⟩ := open_more (by obtain ⟨cs, h1, _⟩ := okWide_struct Try.underlying41 (hval 2 41 v2 rfl rfl); exact ⟨cs, h1⟩) h2
  have hA2 := hA0
  clear hA0 hval0 hsz0
  simp only [List.append_nil] at hW'
  refine (walk c0 kc0 m1 x2 y2 kx2 ky2 W).mono fun e W' ⟨he, bel⟩ => ?_
  subst he
  exact ⟨_, rfl, _, _, _, [], _, [], hW', trodAll_mk1 (shut_bool Try.underlying4 _), (stays_all laidOut bel (by kernel_rfl) hA2), rfl, bel.frame _, fun h => by cases h⟩

theorem over : Rows.roundRisesRow.holds Try.pinned (OpenSpec.ofChange Rows.roundRisesSpec) :=
  OpenClaim.holds_of_wide 5 Try.f5 rfl rfl rfl rfl rfl rfl rfl ⟨rfl, rfl, rfl, rfl, rfl⟩ rfl rfl rfl rfl rfl (by kernel_rfl) Try.func5 (by kernel_rfl)
    (of_decide_eq_true (by kernel_rfl)) (by unfold Func.isWrapper; first | (rw [if_pos (by decide +kernel)]; kernel_rfl) | (rw [if_neg (by decide +kernel)]; exact ⟨rfl, rfl⟩))
    (fun os started H enc _ => lifted os started H enc)

end Go.Proofs.Ytchkpgncelbhpaa.roundRises
namespace Go.Proofs.Ytchkpgncelbhpaa

theorem roundRises_holds : Rows.RoundRisesSaid := roundRises.over
#print axioms roundRises_holds

end Go.Proofs.Ytchkpgncelbhpaa
