/-
  The calls of rosters whose answers the document fixes: they answer so.
  No condition.
-/
import Derived.Test.YthhloomoiihfnaaRoB
namespace Go.Proofs.Ythhloomoiihfnaa
set_option maxRecDepth 10000
open Go.RowKit Go.Sort
set_option linter.unusedVariables false
set_option linter.unusedSimpArgs false

set_option maxHeartbeats 4000000 in
theorem fixed_ok (w : World) : Calls Try.prog 13 #[] w fun e w' => e = .returned (.bool true) ∧ Below w.heap.size w w' := by
  have q1 : ∀ w, Calls Try.prog 7 #[.agg #[.int .u64 0, .slice none 0 0]] w fun e w' => (∃ a c, e = .returned (.tuple #[.agg #[.int .u64 1, .slice a 1 c], .int .u64 1, .int .i64 0]) ∧ Lg Se.vals 2 41 w.heap.size a c ([⟨1, 0⟩] : List Se) w') ∧ Below w.heap.size w w' := fun w => by
    have h := open_ok 0 [] none 0 (by decide) w (.inl rfl)
    unfold Opened at h
    rw [show opnE 0 [] = 0 from rfl, show opnL 0 [] = [⟨1, 0⟩] from rfl, show opnI 0 [] = 1 from rfl] at h
    exact h
  have q2 : ∀ a c w, Li Se.vals 0 a ([⟨1, 0⟩] : List Se) w → Calls Try.prog 7 #[.agg #[.int .u64 1, .slice a 1 c]] w fun e w' => (∃ a c, e = .returned (.tuple #[.agg #[.int .u64 2, .slice a 2 c], .int .u64 2, .int .i64 0]) ∧ Lg Se.vals 2 41 w.heap.size a c ([⟨1, 0⟩, ⟨2, 0⟩] : List Se) w') ∧ Below w.heap.size w w' := fun a c w hl => by
    have h := open_ok 1 [⟨1, 0⟩] a c (by decide) w hl
    unfold Opened at h
    rw [show opnE 1 [⟨1, 0⟩] = 0 from rfl, show opnL 1 [⟨1, 0⟩] = [⟨1, 0⟩, ⟨2, 0⟩] from rfl, show opnI 1 [⟨1, 0⟩] = 2 from rfl] at h
    exact h
  have q3 : ∀ a c w, Li Se.vals 0 a ([⟨1, 0⟩, ⟨2, 0⟩] : List Se) w → Calls Try.prog 9 #[.agg #[.int .u64 2, .slice a 2 c], .int .u64 1] w fun e w' => (∃ a c, e = .returned (.tuple #[.agg #[.int .u64 2, .slice a 1 c], .int .i64 0]) ∧ Lg Se.vals 2 41 w.heap.size a c ([⟨2, 0⟩] : List Se) w') ∧ Below w.heap.size w w' := fun a c w hl => by
    have h := close_ok 1 2 [⟨1, 0⟩, ⟨2, 0⟩] a c (by decide) w hl
    unfold Closed at h
    rw [show clsE 1 [⟨1, 0⟩, ⟨2, 0⟩] = 0 from rfl, show clsL 1 [⟨1, 0⟩, ⟨2, 0⟩] = [⟨2, 0⟩] from rfl, show clsI 2 1 [⟨1, 0⟩, ⟨2, 0⟩] = 2 from rfl] at h
    exact h
  have q4 : ∀ a c w, Li Se.vals 0 a ([⟨2, 0⟩] : List Se) w → Calls Try.prog 7 #[.agg #[.int .u64 2, .slice a 1 c]] w fun e w' => (∃ a c, e = .returned (.tuple #[.agg #[.int .u64 3, .slice a 2 c], .int .u64 3, .int .i64 0]) ∧ Lg Se.vals 2 41 w.heap.size a c ([⟨2, 0⟩, ⟨3, 0⟩] : List Se) w') ∧ Below w.heap.size w w' := fun a c w hl => by
    have h := open_ok 2 [⟨2, 0⟩] a c (by decide) w hl
    unfold Opened at h
    rw [show opnE 2 [⟨2, 0⟩] = 0 from rfl, show opnL 2 [⟨2, 0⟩] = [⟨2, 0⟩, ⟨3, 0⟩] from rfl, show opnI 2 [⟨2, 0⟩] = 3 from rfl] at h
    exact h
  have q5 : ∀ a c w, Li Se.vals 0 a ([⟨2, 0⟩, ⟨3, 0⟩] : List Se) w → Calls Try.prog 11 #[.agg #[.int .u64 3, .slice a 2 c], .int .u64 3] w fun e w' => (∃ a c, e = .returned (.tuple #[.agg #[.int .u64 3, .slice a 2 c], .int .u64 1, .int .i64 0]) ∧ Lg Se.vals 2 41 w.heap.size a c ([⟨2, 0⟩, ⟨3, 1⟩] : List Se) w') ∧ Below w.heap.size w w' := fun a c w hl => by
    have h := next_ok 3 3 [⟨2, 0⟩, ⟨3, 0⟩] a c (by decide) w hl
    unfold Sent at h
    rw [show sndE 3 [⟨2, 0⟩, ⟨3, 0⟩] = 0 from rfl, show sndL 3 [⟨2, 0⟩, ⟨3, 0⟩] = [⟨2, 0⟩, ⟨3, 1⟩] from rfl, show sndI 3 3 [⟨2, 0⟩, ⟨3, 0⟩] = 3 from rfl, show sndN 3 [⟨2, 0⟩, ⟨3, 0⟩] = 1 from rfl] at h
    exact h
  have q6 : ∀ a c w, Li Se.vals 0 a ([⟨2, 0⟩, ⟨3, 0⟩] : List Se) w → Calls Try.prog 9 #[.agg #[.int .u64 3, .slice a 2 c], .int .u64 1] w fun e w' => (∃ a c, e = .returned (.tuple #[.agg #[.int .u64 0, .slice a 0 c], .int .i64 162]) ∧ Lg Se.vals 2 41 w.heap.size a c ([] : List Se) w') ∧ Below w.heap.size w w' := fun a c w hl => by
    have h := close_ok 1 3 [⟨2, 0⟩, ⟨3, 0⟩] a c (by decide) w hl
    unfold Closed at h
    rw [show clsE 1 [⟨2, 0⟩, ⟨3, 0⟩] = 162 from rfl, show clsL 1 [⟨2, 0⟩, ⟨3, 0⟩] = [] from rfl, show clsI 3 1 [⟨2, 0⟩, ⟨3, 0⟩] = 0 from rfl] at h
    exact h
  have q7 : ∀ a c w, Li Se.vals 0 a ([⟨2, 0⟩, ⟨3, 0⟩] : List Se) w → Calls Try.prog 15 #[.agg #[.int .u64 3, .slice a 2 c], .int .u64 3] w fun e w' => e = .returned (.bool true) ∧ Below w.heap.size w w' := fun a c w hl => by
    have h := has_ok 3 3 [⟨2, 0⟩, ⟨3, 0⟩] a c (by decide) w hl
    rw [show hasS 3 [⟨2, 0⟩, ⟨3, 0⟩] = true from rfl] at h
    exact h
  have q8 : ∀ a c w, Li Se.vals 0 a ([⟨2, 0⟩, ⟨3, 0⟩] : List Se) w → Calls Try.prog 15 #[.agg #[.int .u64 3, .slice a 2 c], .int .u64 1] w fun e w' => e = .returned (.bool false) ∧ Below w.heap.size w w' := fun a c w hl => by
    have h := has_ok 1 3 [⟨2, 0⟩, ⟨3, 0⟩] a c (by decide) w hl
    rw [show hasS 1 [⟨2, 0⟩, ⟨3, 0⟩] = false from rfl] at h
    exact h
  have q9 : ∀ a c w, Li Se.vals 0 a ([⟨2, 0⟩, ⟨3, 0⟩] : List Se) w → Calls Try.prog 17 #[.agg #[.int .u64 3, .slice a 2 c]] w fun e w' => e = .returned (.bool true) ∧ Below w.heap.size w w' := fun a c w hl => by
    have h := may_ok 3 [⟨2, 0⟩, ⟨3, 0⟩] a c (by decide) w hl
    rw [show mayS 3 [⟨2, 0⟩, ⟨3, 0⟩] = true from rfl] at h
    exact h
  have hB := Below.refl w.heap.size w
  go_enter Try.func13, Try.ntmps13
  go_wp2_with (refine build_zero builtRo rfl rfl ?_)
  refine (q1 _).mono ?_
  rintro r w1 ⟨⟨a1, c1, rfl, h1⟩, hb⟩
  replace hB := below_next hB hb
  replace h1 := h1.li.mono (Nat.zero_le _)
  clear hb q1
  have v1 := blk_new w1 #[.int .u64 1, .slice a1 1 c1] 25
  have hb := below_box w1 (.cells #[.int .u64 1, .slice a1 1 c1] 25)
  go_upto_region 2 with (go_big_may; first | refine alloc_zero zeroRo rfl rfl ?_ | refine store_new rfl 25 _ _ rfl (cells := #[.int .u64 1, .slice a1 1 c1]) rfl rfl sizeRo rfl (ro_one _ _ _ _) ?_)
  try simp only [Act.put]
  generalize w1.alloc (Obj.cells #[.int .u64 1, .slice a1 1 c1] 25) = W1 at v1 hb ⊢
  replace h1 := h1.below hb
  replace hB := below_next hB hb
  generalize w1.heap.size = p1 at v1 hb ⊢
  clear hb
  go_wp2_with (refine load_blk rfl 25 _ rfl v1 rfl Try.underlying25 rfl sizeRo ?_)
  refine (q2 a1 c1 _ h1).mono ?_
  rintro r w2 ⟨⟨a2, c2, rfl, h2⟩, hb⟩
  replace hB := below_next hB hb
  replace h2 := h2.li.mono (Nat.zero_le _)
  clear hb q2 v1 h1
  have v2 := blk_new w2 #[.int .u64 2, .slice a2 2 c2] 25
  have hb := below_box w2 (.cells #[.int .u64 2, .slice a2 2 c2] 25)
  go_upto_region 3 with (go_big_may; first | refine alloc_zero zeroRo rfl rfl ?_ | refine store_new rfl 25 _ _ rfl (cells := #[.int .u64 2, .slice a2 2 c2]) rfl rfl sizeRo rfl (ro_one _ _ _ _) ?_)
  try simp only [Act.put]
  generalize w2.alloc (Obj.cells #[.int .u64 2, .slice a2 2 c2] 25) = W2 at v2 hb ⊢
  replace h2 := h2.below hb
  replace hB := below_next hB hb
  generalize w2.heap.size = p2 at v2 hb ⊢
  clear hb
  go_wp2_with (refine load_blk rfl 25 _ rfl v2 rfl Try.underlying25 rfl sizeRo ?_)
  refine (q3 a2 c2 _ h2).mono ?_
  rintro r w3 ⟨⟨a3, c3, rfl, h3⟩, hb⟩
  replace hB := below_next hB hb
  replace h3 := h3.li.mono (Nat.zero_le _)
  clear hb q3 v2 h2
  have v3 := blk_new w3 #[.int .u64 2, .slice a3 1 c3] 25
  have hb := below_box w3 (.cells #[.int .u64 2, .slice a3 1 c3] 25)
  go_upto_region 4 with (go_big_may; first | refine alloc_zero zeroRo rfl rfl ?_ | refine store_new rfl 25 _ _ rfl (cells := #[.int .u64 2, .slice a3 1 c3]) rfl rfl sizeRo rfl (ro_one _ _ _ _) ?_)
  try simp only [Act.put]
  generalize w3.alloc (Obj.cells #[.int .u64 2, .slice a3 1 c3] 25) = W3 at v3 hb ⊢
  replace h3 := h3.below hb
  replace hB := below_next hB hb
  generalize w3.heap.size = p3 at v3 hb ⊢
  clear hb
  go_wp2_with (refine load_blk rfl 25 _ rfl v3 rfl Try.underlying25 rfl sizeRo ?_)
  refine (q4 a3 c3 _ h3).mono ?_
  rintro r w4 ⟨⟨a4, c4, rfl, h4⟩, hb⟩
  replace hB := below_next hB hb
  replace h4 := h4.li.mono (Nat.zero_le _)
  clear hb q4 v3 h3
  have v4 := blk_new w4 #[.int .u64 3, .slice a4 2 c4] 25
  have hb := below_box w4 (.cells #[.int .u64 3, .slice a4 2 c4] 25)
  go_upto_region 5 with (go_big_may; first | refine alloc_zero zeroRo rfl rfl ?_ | refine store_new rfl 25 _ _ rfl (cells := #[.int .u64 3, .slice a4 2 c4]) rfl rfl sizeRo rfl (ro_one _ _ _ _) ?_)
  try simp only [Act.put]
  generalize w4.alloc (Obj.cells #[.int .u64 3, .slice a4 2 c4] 25) = W4 at v4 hb ⊢
  replace h4 := h4.below hb
  replace hB := below_next hB hb
  generalize w4.heap.size = p4 at v4 hb ⊢
  clear hb
  go_wp2_with (refine load_blk rfl 25 _ rfl v4 rfl Try.underlying25 rfl sizeRo ?_)
  refine (q5 a4 c4 _ h4).mono ?_
  rintro r w5 ⟨⟨a5, c5, rfl, h5⟩, hb⟩
  replace v4 := v4.below hb
  replace h4 := h4.below hb
  replace hB := below_next hB hb
  replace h5 := h5.li.mono (Nat.zero_le _)
  clear hb q5
  have v5 := blk_new w5 #[.int .u64 3, .slice a5 2 c5] 25
  have hb := below_box w5 (.cells #[.int .u64 3, .slice a5 2 c5] 25)
  go_upto_region 6 with (go_big_may; first | refine alloc_zero zeroRo rfl rfl ?_ | refine store_new rfl 25 _ _ rfl (cells := #[.int .u64 3, .slice a5 2 c5]) rfl rfl sizeRo rfl (ro_one _ _ _ _) ?_)
  try simp only [Act.put]
  generalize w5.alloc (Obj.cells #[.int .u64 3, .slice a5 2 c5] 25) = W5 at v5 hb ⊢
  replace v4 := v4.below hb
  replace h4 := h4.below hb
  replace h5 := h5.below hb
  replace hB := below_next hB hb
  generalize w5.heap.size = p5 at v5 hb ⊢
  clear hb
  go_wp2_with (refine load_blk rfl 25 _ rfl v4 rfl Try.underlying25 rfl sizeRo ?_)
  refine (q6 a4 c4 _ h4).mono ?_
  rintro r w6 ⟨⟨a6, c6, rfl, h6⟩, hb⟩
  replace v4 := v4.below hb
  replace h4 := h4.below hb
  replace hB := below_next hB hb
  replace h6 := h6.li.mono (Nat.zero_le _)
  clear hb q6 v5 h5
  have v6 := blk_new w6 #[.int .u64 0, .slice a6 0 c6] 25
  have hb := below_box w6 (.cells #[.int .u64 0, .slice a6 0 c6] 25)
  go_upto_region 7 with (go_big_may; first | refine alloc_zero zeroRo rfl rfl ?_ | refine store_new rfl 25 _ _ rfl (cells := #[.int .u64 0, .slice a6 0 c6]) rfl rfl sizeRo rfl (ro_one _ _ _ _) ?_)
  try simp only [Act.put]
  generalize w6.alloc (Obj.cells #[.int .u64 0, .slice a6 0 c6] 25) = W6 at v6 hb ⊢
  replace v4 := v4.below hb
  replace h4 := h4.below hb
  replace h6 := h6.below hb
  replace hB := below_next hB hb
  generalize w6.heap.size = p6 at v6 hb ⊢
  clear hb
  clear v6 h6
  go_wp2_with (first | refine load_want rfl 25 _ rfl v4 rfl Try.underlying25 rfl sizeRo ?_ | refine load_blk rfl 25 _ rfl v4 rfl Try.underlying25 rfl sizeRo ?_)
  refine (q7 a4 c4 _ h4).mono ?_
  rintro r W7 ⟨rfl, hb⟩
  replace v4 := v4.below hb
  replace h4 := h4.below hb
  replace hB := below_next hB hb
  clear hb q7
  go_wp2_with (first | refine load_want rfl 25 _ rfl v4 rfl Try.underlying25 rfl sizeRo ?_ | refine load_blk rfl 25 _ rfl v4 rfl Try.underlying25 rfl sizeRo ?_)
  refine (q8 a4 c4 _ h4).mono ?_
  rintro r W8 ⟨rfl, hb⟩
  replace v4 := v4.below hb
  replace h4 := h4.below hb
  replace hB := below_next hB hb
  clear hb q8
  go_wp2_with (first | refine load_want rfl 25 _ rfl v4 rfl Try.underlying25 rfl sizeRo ?_ | refine load_blk rfl 25 _ rfl v4 rfl Try.underlying25 rfl sizeRo ?_)
  refine (q9 a4 c4 _ h4).mono ?_
  rintro r W9 ⟨rfl, hb⟩
  replace hB := below_next hB hb
  clear hb q9 v4 h4
  go_wp2_with fail
  go_ret
  exact ⟨rfl, hB⟩

end Go.Proofs.Ythhloomoiihfnaa
