/-
  Which of two places is ahead: what the document says.
  No condition.
-/
import Derived.Test.YtmnpbjaofemelaaRdM
namespace Go.Proofs.Ytmnpbjaofemelaa
set_option maxRecDepth 10000
open Go.RowKit Go.Sort

set_option maxHeartbeats 1000000 in
theorem rbef_ok (a b : Pl) (w : World) : Calls Try.prog 21 #[.agg a.arr, .agg b.arr] w fun e w' => e = .returned (.bool (befB a b)) ∧ Below w.heap.size w w' := by
  obtain ⟨a0, a1, hB⟩ := two_blk (T0 := 42) (T1 := 42) (C0 := a.arr) (C1 := b.arr) (w := w) rfl
  obtain ⟨R, hR⟩ : ∃ R, Hid (befB a b = R) := ⟨_, rfl⟩
  rw [hR.out]
  go_enter Try.func21, Try.ntmps21
  go_upto_region 1 with fail
  generalize (w.alloc (Obj.cells a.arr 42)).alloc (Obj.cells b.arr 42) = W at a0 a1 hB ⊢
  have q0 := a0.cell 0 (.int .u32 (a.r : Int)) rfl
  have q1 := a0.cell 1 (.int .i64 a.f) rfl
  have q2 := a0.cell 2 (.int .i64 a.s) rfl
  have r0 := a1.cell 0 (.int .u32 (b.r : Int)) rfl
  have r1 := a1.cell 1 (.int .i64 b.f) rfl
  have r2 := a1.cell 2 (.int .i64 b.s) rfl
  clear a0 a1
  by_cases h1 : a.r = b.r
  · by_cases h2 : a.f = b.f
    · have h : decide (a.s < b.s) = R := by rw [← hR.out, befB, decide_eq_decide]; omega
      rw [h1] at q0
      rw [h2] at q1
      clear hR h1 h2
      subst h
      go_wp2_with fail
      go_ret
      exact ⟨rfl, hB⟩
    · have h : decide (a.f < b.f) = R := by rw [← hR.out, befB, decide_eq_decide]; omega
      have g2 : (a.f != b.f) = true := by rw [bne_iff_ne]; exact h2
      rw [h1] at q0
      clear hR h1 h2
      subst h
      go_wp2_with fail
      go_ret
      exact ⟨rfl, hB⟩
  · have h : decide (a.r < b.r) = R := by rw [← hR.out, befB, decide_eq_decide]; omega
    have g1 : ((a.r : Int) != (b.r : Int)) = true := by rw [bne_iff_ne]; omega
    clear hR h1
    subst h
    go_wp2_with fail
    go_ret
    exact ⟨rfl, hB⟩

end Go.Proofs.Ytmnpbjaofemelaa
