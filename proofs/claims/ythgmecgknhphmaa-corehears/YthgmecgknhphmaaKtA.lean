/-
  Who is a member, whether a round is the next one, whether a frame is too old, or the one that is sought: what each call answers.
  No condition.
-/
import Derived.Test.YthgmecgknhphmaaBase
namespace Go.Proofs.Ythgmecgknhphmaa
set_option maxRecDepth 10000
open Go.RowKit Go.Sort

theorem kmember_ok (m : Nat → Nat) (v : Int) (w : World) : Calls Try.prog 101 #[.agg (mbc m), .int .i64 v] w fun e w' => e = .returned (.bool (isM m v)) ∧ Below w.heap.size w w' := by
  have a0 := blk_new w (mbc m) 28
  have hB : Below w.heap.size w (w.alloc (.cells (mbc m) 28)) := below_box w _
  have hm8 := lst_len m
  rw [← hasL_isM]
  obtain ⟨t, hT⟩ : ∃ t, Hid (hasL (lst m) v = t) := ⟨_, rfl⟩
  rw [hT.out]
  go_enter Try.func101, Try.ntmps101
  go_upto_region 1 with fail
  generalize (w.alloc (Obj.cells (mbc m) 28)) = W at a0 hB ⊢
  go_wp2_with (refine load_blk rfl 28 _ rfl a0 rfl Try.underlying28 rfl sizeMb ?_)
  refine (list_ok m _).mono ?_
  rintro r w1 ⟨⟨la, lc, rfl, hS⟩, hb⟩
  replace hB := hB.trans (hb.mono hB.size)
  replace hS := hS.mono (Nat.zero_le _)
  have hp := contains_ok (lst m) la lc v (by omega) w1 hS
  rw [hT.out] at hp
  generalize (lst m).length = n at *
  clear hb a0 hS
  go_wp2_with fail
  refine hp.mono ?_
  rintro r w2 ⟨rfl, rfl⟩
  clear hp
  go_wp2_with fail
  go_ret
  exact ⟨rfl, hB⟩

theorem next_ok (c r : Nat) (hc : c < 4294967296) (hr : r < 4294967296) (w : World) : Calls Try.prog 102 #[.int .u32 (c : Int), .int .u32 (r : Int)] w fun e w' => e = .returned (.bool (decide (r = c + 1))) ∧ w' = w := by
  obtain ⟨t, ht⟩ : ∃ t, decide (r = c + 1) = t := ⟨_, rfl⟩
  rw [ht]
  have h1 : ((r : Int) == (c : Int) + 1) = t := by rw [← ht, Bool.eq_iff_iff, beq_iff_eq, decide_eq_true_iff]; omega
  clear ht
  go_enter Try.func102, Try.ntmps102
  go_wp2_with fail
  go_ret
  exact ⟨rfl, rfl⟩

set_option maxHeartbeats 1000000 in
theorem older_ok (x k : Kt) (X : Nat) (w : World) (hX : Blk X x.arr 64 w) : Calls Try.prog 115 #[.agg k.arr, .pointer (some ⟨X, 0, none⟩)] w fun e w' => e = .returned (.bool (oldB x k)) ∧ Below w.heap.size w w' := by
  have b1 := blk_new w k.arr 64
  have hB : Below w.heap.size w (w.alloc (.cells k.arr 64)) := below_box w _
  have hX1 := hX.below hB
  obtain ⟨W, hW⟩ : ∃ W, w.alloc (.cells k.arr 64) = W := ⟨_, rfl⟩
  rw [hW] at b1 hB hX1
  have q0 := b1.cell 0 _ k.get0
  have q1 := b1.cell 1 _ k.get1
  have q2 := hX1.cell 0 _ x.get0
  have q3 := hX1.cell 1 _ x.get1
  obtain ⟨kf, kr, kg, kl⟩ := k
  obtain ⟨xf, xr, xg, xl⟩ := x
  clear b1 hX1 hX
  by_cases hf : kf = xf
  · subst hf
    obtain ⟨t, ht⟩ : ∃ t, oldB ⟨kf, xr, xg, xl⟩ ⟨kf, kr, kg, kl⟩ = t := ⟨_, rfl⟩
    rw [ht]
    have h1 : decide ((kr : Int) + 3 ≤ (xr : Int)) = t := by
      rw [← ht, oldB, decide_eq_decide]
      constructor
      · intro h; exact ⟨rfl, by show kr + 3 ≤ xr; omega⟩
      · rintro ⟨_, h⟩; have h' : kr + 3 ≤ xr := h; omega
    clear ht
    go_enter Try.func115, Try.ntmps115
    go_wp2_with fail
    go_ret
    exact ⟨rfl, hB⟩
  · have ht : oldB ⟨xf, xr, xg, xl⟩ ⟨kf, kr, kg, kl⟩ = false := by simp [oldB, hf]
    rw [ht]
    have h1 : (kf == xf) = false := by rw [beq_eq_false_iff_ne]; exact hf
    clear ht hf
    go_enter Try.func115, Try.ntmps115
    go_wp2_with fail
    go_ret
    exact ⟨rfl, hB⟩

set_option maxHeartbeats 1000000 in
theorem sought_ok (i : Int) (r : Nat) (k : Kt) (X Y : Nat) (w : World) (hX : Blk X #[.int .i64 i] 3 w) (hY : Blk Y #[.int .u32 (r : Int)] 22 w) : Calls Try.prog 78 #[.agg k.arr, .pointer (some ⟨X, 0, none⟩), .pointer (some ⟨Y, 0, none⟩)] w fun e w' => e = .returned (.bool (isB i r k)) ∧ Below w.heap.size w w' := by
  have b1 := blk_new w k.arr 64
  have hB : Below w.heap.size w (w.alloc (.cells k.arr 64)) := below_box w _
  have hX1 := hX.below hB
  have hY1 := hY.below hB
  obtain ⟨W, hW⟩ : ∃ W, w.alloc (.cells k.arr 64) = W := ⟨_, rfl⟩
  rw [hW] at b1 hB hX1 hY1
  have q0 := b1.cell 0 _ k.get0
  have q1 := b1.cell 1 _ k.get1
  have q2 : W.cell? ⟨X, 0, none⟩ = some (.int .i64 i) := hX1.cell 0 _ rfl
  have q3 : W.cell? ⟨Y, 0, none⟩ = some (.int .u32 (r : Int)) := hY1.cell 0 _ rfl
  obtain ⟨kf, kr, kg, kl⟩ := k
  clear b1 hX1 hY1 hX hY
  by_cases hf : kf = i
  · subst hf
    obtain ⟨t, ht⟩ : ∃ t, isB kf r ⟨kf, kr, kg, kl⟩ = t := ⟨_, rfl⟩
    rw [ht]
    have h1 : ((kr : Int) == (r : Int)) = t := by
      rw [← ht, isB, Bool.eq_iff_iff, beq_iff_eq, decide_eq_true_iff]
      constructor
      · intro h; exact ⟨rfl, by show kr = r; omega⟩
      · rintro ⟨_, h⟩; have h' : kr = r := h; omega
    clear ht
    go_enter Try.func78, Try.ntmps78
    go_wp2_with fail
    go_ret
    exact ⟨rfl, hB⟩
  · have ht : isB i r ⟨kf, kr, kg, kl⟩ = false := by simp [isB, hf]
    rw [ht]
    have h1 : (kf == i) = false := by rw [beq_eq_false_iff_ne]; exact hf
    clear ht hf
    go_enter Try.func78, Try.ntmps78
    go_wp2_with fail
    go_ret
    exact ⟨rfl, hB⟩

end Go.Proofs.Ythgmecgknhphmaa
