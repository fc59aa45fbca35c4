/-
  Blocks of what was boxed at a function's head: five, six.
  No condition.
-/
import Derived.Test.YtodemfkjieonoaaHd
namespace Go.Proofs.Ytodemfkjieonoaa
set_option maxRecDepth 10000
open Go.RowKit Go.Sort

theorem five_blk {T0 T1 T2 T3 T4 : TypeId} {C0 C1 C2 C3 C4 : Array Value} {w W : World} (h : ((((w.alloc (.cells C0 T0)).alloc (.cells C1 T1)).alloc (.cells C2 T2)).alloc (.cells C3 T3)).alloc (.cells C4 T4) = W) :
    Blk w.heap.size C0 T0 W ∧ Blk (w.heap.size + 1) C1 T1 W ∧ Blk (w.heap.size + 1 + 1) C2 T2 W ∧ Blk (w.heap.size + 1 + 1 + 1) C3 T3 W ∧ Blk (w.heap.size + 1 + 1 + 1 + 1) C4 T4 W ∧ Below w.heap.size w W := by
  subst h
  obtain ⟨h0, h1, h2, h3, hb⟩ := four_blk (T0 := T0) (T1 := T1) (T2 := T2) (T3 := T3) (C0 := C0) (C1 := C1) (C2 := C2) (C3 := C3) (w := w) rfl
  refine ⟨h0.alloc _, h1.alloc _, h2.alloc _, h3.alloc _, ?_, hb.alloc hb.size _⟩
  have h := (blk_new ((((w.alloc (.cells C0 T0)).alloc (.cells C1 T1)).alloc (.cells C2 T2)).alloc (.cells C3 T3)) C4 T4)
  rw [alloc_size, alloc_size, alloc_size, alloc_size] at h
  exact h
theorem six_blk {T0 T1 T2 T3 T4 T5 : TypeId} {C0 C1 C2 C3 C4 C5 : Array Value} {w W : World} (h : (((((w.alloc (.cells C0 T0)).alloc (.cells C1 T1)).alloc (.cells C2 T2)).alloc (.cells C3 T3)).alloc (.cells C4 T4)).alloc (.cells C5 T5) = W) :
    Blk w.heap.size C0 T0 W ∧ Blk (w.heap.size + 1) C1 T1 W ∧ Blk (w.heap.size + 1 + 1) C2 T2 W ∧ Blk (w.heap.size + 1 + 1 + 1) C3 T3 W ∧ Blk (w.heap.size + 1 + 1 + 1 + 1) C4 T4 W ∧ Blk (w.heap.size + 1 + 1 + 1 + 1 + 1) C5 T5 W ∧ Below w.heap.size w W := by
  subst h
  obtain ⟨h0, h1, h2, h3, h4, hb⟩ := five_blk (T0 := T0) (T1 := T1) (T2 := T2) (T3 := T3) (T4 := T4) (C0 := C0) (C1 := C1) (C2 := C2) (C3 := C3) (C4 := C4) (w := w) rfl
  refine ⟨h0.alloc _, h1.alloc _, h2.alloc _, h3.alloc _, h4.alloc _, ?_, hb.alloc hb.size _⟩
  have h := (blk_new (((((w.alloc (.cells C0 T0)).alloc (.cells C1 T1)).alloc (.cells C2 T2)).alloc (.cells C3 T3)).alloc (.cells C4 T4)) C5 T5)
  rw [alloc_size, alloc_size, alloc_size, alloc_size, alloc_size] at h
  exact h

end Go.Proofs.Ytodemfkjieonoaa
