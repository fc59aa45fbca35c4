/-
  The calls whose answers the document fixes answer so: fixed returns true. Of the memory that was there nothing turns.
  No condition.
-/
import Derived.Test.YtokkjnlccgmpiaaEntWd
namespace Go.Proofs.Ytokkjnlccgmpiaa
open Go.RowKit Go.Sort

theorem encode_hi (w : World) : Calls Try.prog 8 #[.agg #[.int .i64 1, .int .i64 2, .int .i64 1, .int .u64 3, .int .u64 4, .string ⟨#[104, 105]⟩]] w fun e w' => e = .returned (.tuple #[.string ⟨#[1, 2, 1, 0, 3, 0, 0, 0, 4, 2, 104, 105, 0, 0, 0, 0, 0, 0, 0, 0, 0, 0, 0, 0, 0, 0, 0, 0]⟩, .int .i64 0]) ∧ Below w.heap.size w w' := by
  have h : Ent.bytes 1 2 1 3 4 ⟨#[104, 105]⟩ = ⟨#[1, 2, 1, 0, 3, 0, 0, 0, 4, 2, 104, 105, 0, 0, 0, 0, 0, 0, 0, 0, 0, 0, 0, 0, 0, 0, 0, 0]⟩ := by decide +kernel
  have := encode_ok 1 2 1 3 4 ⟨#[104, 105]⟩ (by decide +kernel) (by decide) (by decide) (by decide) (by decide) w
  rw [h] at this
  exact this
theorem decode_hi (w : World) : Calls Try.prog 15 #[.string ⟨#[1, 2, 1, 0, 3, 0, 0, 0, 4, 2, 104, 105, 0, 0, 0, 0, 0, 0, 0, 0, 0, 0, 0, 0, 0, 0, 0, 0]⟩] w fun e w' => e = .returned (.tuple #[.agg #[.int .i64 1, .int .i64 2, .int .i64 1, .int .u64 3, .int .u64 4, .string ⟨#[104, 105]⟩], .int .i64 0]) ∧ Below w.heap.size w w' := by
  have h : Ent.bytes 1 2 1 3 4 ⟨#[104, 105]⟩ = ⟨#[1, 2, 1, 0, 3, 0, 0, 0, 4, 2, 104, 105, 0, 0, 0, 0, 0, 0, 0, 0, 0, 0, 0, 0, 0, 0, 0, 0]⟩ := by decide +kernel
  have := decode_back 1 2 1 3 4 ⟨#[104, 105]⟩ (by decide +kernel) (by decide) (by decide) (by decide) (by decide) (by decide) (by decide) w
  rw [h] at this
  exact this
theorem decode_none (w : World) : Calls Try.prog 15 #[.string ⟨#[]⟩] w fun e w' => e = .returned (.tuple #[.agg #[.int .i64 0, .int .i64 0, .int .i64 0, .int .u64 0, .int .u64 0, .string ⟨#[]⟩], .int .i64 30]) ∧ Below w.heap.size w w' :=
  decode_no _ (fun w => read_size _ (by decide) w) w
theorem empty_28 (w : World) : Calls Try.prog 13 #[] w fun e w' => e = .returned (.string ⟨#[0, 0, 0, 0, 0, 0, 0, 0, 0, 0, 0, 0, 0, 0, 0, 0, 0, 0, 0, 0, 0, 0, 0, 0, 0, 0, 0, 0]⟩) ∧ Below w.heap.size w w' := by
  have h : Ent.bytes 0 0 0 0 0 ⟨#[]⟩ = ⟨#[0, 0, 0, 0, 0, 0, 0, 0, 0, 0, 0, 0, 0, 0, 0, 0, 0, 0, 0, 0, 0, 0, 0, 0, 0, 0, 0, 0]⟩ := by decide +kernel
  have := empty_any w
  rw [h] at this
  exact this

set_option maxHeartbeats 1000000 in
theorem fixed_any (w : World) : Calls Try.prog 10 #[] w fun e w' => e = .returned (.bool true) ∧ Below w.heap.size w w' := by
  have keq := eql_ent 1 2 1 3 4 ⟨#[104, 105]⟩ 1 2 1 3 4 ⟨#[104, 105]⟩ true (by decide)
  have hx : (((⟨#[1, 2, 1, 0, 3, 0, 0, 0, 4, 2, 104, 105, 0, 0, 0, 0, 0, 0, 0, 0, 0, 0, 0, 0, 0, 0, 0, 0]⟩ : ByteArray).extract 0 12).toList == [1, 2, 1, 0, 3, 0, 0, 0, 4, 2, 104, 105]) = true := by decide +kernel
  go_enter Try.func10, Try.ntmps10
  go_wp2_with fail
  refine (encode_hi _).mono ?_
  rintro e w1 ⟨rfl, hb1⟩
  have e1 := ent_kept hb1
  have hw1 : Below w.heap.size w w1 := (below_box _ _).trans (hb1.mono (below_box _ _).size)
  have hl1 : w.heap.size < w1.heap.size := Nat.lt_of_lt_of_le (by simp) hb1.size
  clear hb1
  go_wp2_with fail
  refine (decode_hi _).mono ?_
  rintro e w2 ⟨rfl, hb2⟩
  have e2 := e1.below hl1 hb2
  have hw2 := hw1.trans (hb2.mono (Nat.le_of_lt hl1))
  have hl2 := Nat.lt_of_lt_of_le hl1 hb2.size
  clear hb2 e1 hl1 hw1
  go_wp2_with fail
  refine (decode_none _).mono ?_
  rintro e w3 ⟨rfl, hb3⟩
  have x3 := ent_kept hb3
  have a2 := below_box w2 (.cells #[.int .i64 1, .int .i64 2, .int .i64 1, .int .u64 3, .int .u64 4, .string ⟨#[104, 105]⟩] 24)
  have e3 := (e2.below hl2 a2).below (Nat.lt_of_lt_of_le hl2 a2.size) hb3
  have hw3 := hw2.trans ((a2.mono (Nat.le_of_lt hl2)).trans (hb3.mono (Nat.le_trans (Nat.le_of_lt hl2) a2.size)))
  have hl3 : w2.heap.size < w3.heap.size := Nat.lt_of_lt_of_le (by simp) hb3.size
  have hl4 : w.heap.size < w3.heap.size := Nat.lt_trans hl2 hl3
  clear hb3 a2 e2 hw2
  obtain ⟨x0, x1, x2, x3, x4, x5⟩ := x3
  obtain ⟨c0, c1, c2, c3, c4, c5⟩ := e3
  go_wp2_with fail
  refine (empty_28 _).mono ?_
  rintro e w4 ⟨rfl, hb4⟩
  go_wp2_with fail
  go_ret
  have a3 := below_box w3 (.cells #[.int .i64 0, .int .i64 0, .int .i64 0, .int .u64 0, .int .u64 0, .string ⟨#[]⟩] 24)
  exact ⟨rfl, hw3.trans ((a3.mono (Nat.le_of_lt hl4)).trans (hb4.mono (Nat.le_trans (Nat.le_of_lt hl4) a3.size)))⟩

end Go.Proofs.Ytokkjnlccgmpiaa
