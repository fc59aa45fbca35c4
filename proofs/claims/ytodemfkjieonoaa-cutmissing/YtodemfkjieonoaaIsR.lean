/-
  Who is a member: what the document says.
  No condition.
-/
import Derived.Test.YtodemfkjieonoaaIsM
namespace Go.Proofs.Ytodemfkjieonoaa
set_option maxRecDepth 10000
open Go.RowKit Go.Sort

set_option maxHeartbeats 1000000 in
theorem is_ok (m : Nat → Nat) (i : Int) (w : World) : Calls Try.prog 18 #[.agg (mbc m), .int .i64 i] w fun e w' => e = .returned (.bool (isM m i)) ∧ Below w.heap.size w w' := by
  have b1 := blk_new w (mbc m) 26
  have hB : Below w.heap.size w (w.alloc (.cells (mbc m) 26)) := below_box w _
  obtain ⟨W, hW⟩ : ∃ W, w.alloc (.cells (mbc m) 26) = W := ⟨_, rfl⟩
  rw [hW] at b1 hB
  by_cases h0 : 0 ≤ i
  · by_cases h1 : i < 8
    · obtain ⟨k, rfl⟩ : ∃ k : Nat, i = (k : Int) := ⟨i.toNat, by omega⟩
      have c0 := b1.cell k _ (mbc_get m k (by omega))
      obtain ⟨t, ht⟩ : ∃ t, isM m (k : Int) = t := ⟨_, rfl⟩
      rw [ht]
      have h2 : ((m k : Int) != 0) = t := by
        rw [← ht, isM, Bool.eq_iff_iff, bne_iff_ne, decide_eq_true_iff, Int.toNat_natCast]
        constructor
        · intro h; exact ⟨h0, h1, by omega⟩
        · rintro ⟨_, _, h⟩; omega
      clear b1 ht
      go_enter Try.func18, Try.ntmps18
      go_wp2_with fail
      go_ret
      exact ⟨rfl, hB⟩
    · have hr : isM m i = false := by simp [isM, h1]
      rw [hr]
      clear b1
      go_enter Try.func18, Try.ntmps18
      go_wp2_with fail
      go_ret
      exact ⟨rfl, hB⟩
  · have hr : isM m i = false := by simp [isM, h0]
    rw [hr]
    clear b1
    go_enter Try.func18, Try.ntmps18
    go_wp2_with fail
    go_ret
    exact ⟨rfl, hB⟩

end Go.Proofs.Ytodemfkjieonoaa
