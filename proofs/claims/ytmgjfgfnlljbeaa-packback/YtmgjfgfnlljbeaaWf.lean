/-
  The calls whose answers the document fixes answer so: fixed returns true. Of the memory that was there nothing turns.
  No condition.
-/
import Derived.Test.YtmgjfgfnlljbeaaWe
namespace Go.Proofs.Ytmgjfgfnlljbeaa
open Go.RowKit

theorem putText_hi (w : World) : Calls Try.prog 15 #[.string ⟨#[104, 105]⟩, .int .i64 3] w fun e w' => e = .returned (.tuple #[.string ⟨#[2, 104, 105, 0]⟩, .bool true]) ∧ Below w.heap.size w w' := by
  have h : Pack.textB ⟨#[104, 105]⟩ 3 = ⟨#[2, 104, 105, 0]⟩ := by decide +kernel
  have := putText_ok ⟨#[104, 105]⟩ 3 (by decide) (by decide) w
  rw [h] at this
  exact this
theorem takeText_no (w : World) : Calls Try.prog 17 #[.string ⟨#[2, 104, 105, 1]⟩, .int .i64 3] w fun e w' => e = .returned (.tuple #[.string ⟨#[]⟩, .string ⟨#[]⟩, .bool false]) ∧ Below w.heap.size w w' :=
  takeText_other ⟨#[2, 104, 105, 1]⟩ (by decide) 3 (by decide) (by decide) 2 rfl (by decide) (by decide +kernel) w
theorem take_258 (w : World) : Calls Try.prog 8 #[.string ⟨#[1, 2, 122]⟩, .int .i64 2] w fun e w' => e = .returned (.tuple #[.int .u64 258, .string ⟨#[122]⟩, .bool true]) ∧ Below w.heap.size w w' := by
  have h1 : Pack.val ((⟨#[1, 2, 122]⟩ : ByteArray).data.toList.take 2) = 258 := by decide +kernel
  have h2 : (⟨#[1, 2, 122]⟩ : ByteArray).extract 2 (⟨#[1, 2, 122]⟩ : ByteArray).size = ⟨#[122]⟩ := by decide +kernel
  have := take_ok ⟨#[1, 2, 122]⟩ (by decide) 2 (by decide) (by decide) (by decide) w
  rw [h1, h2] at this
  exact this
theorem put_258_2 (w : World) : Calls Try.prog 11 #[.int .u64 258, .int .i64 2] w fun e w' => e = .returned (.string ⟨#[1, 2]⟩) ∧ Below w.heap.size w w' := by
  have h : Pack.putB 258 2 = ⟨#[1, 2]⟩ := by decide +kernel
  have := put_ok 258 2 (by decide) (by decide) w
  rw [h] at this
  exact this
theorem put_258_1 (w : World) : Calls Try.prog 11 #[.int .u64 258, .int .i64 1] w fun e w' => e = .returned (.string ⟨#[2]⟩) ∧ Below w.heap.size w w' := by
  have h : Pack.putB 258 1 = ⟨#[2]⟩ := by decide +kernel
  have := put_ok 258 1 (by decide) (by decide) w
  rw [h] at this
  exact this
theorem fits_255 (w : World) : Calls Try.prog 13 #[.int .u64 255, .int .i64 1] w fun e w' => e = .returned (.bool true) ∧ w' = w :=
  fits_ok 255 1 (by decide) (by decide) w
theorem fits_256 (w : World) : Calls Try.prog 13 #[.int .u64 256, .int .i64 1] w fun e w' => e = .returned (.bool false) ∧ w' = w :=
  fits_ok 256 1 (by decide) (by decide) w

set_option maxHeartbeats 1000000 in
theorem fixed_any (w : World) : Calls Try.prog 10 #[] w fun e w' => e = .returned (.bool true) ∧ Below w.heap.size w w' := by
  go_enter Try.func10, Try.ntmps10
  go_wp2_with fail
  refine (putText_hi _).mono ?_
  rintro e w1 ⟨rfl, hb1⟩
  go_wp2_with fail
  refine (takeText_no _).mono ?_
  rintro e w2 ⟨rfl, hb2⟩
  go_wp2_with fail
  refine (take_258 _).mono ?_
  rintro e w3 ⟨rfl, hb3⟩
  go_wp2_with fail
  refine (put_258_2 _).mono ?_
  rintro e w4 ⟨rfl, hb4⟩
  go_wp2_with fail
  refine (put_258_1 _).mono ?_
  rintro e w5 ⟨rfl, hb5⟩
  go_wp2_with fail
  refine (fits_255 _).mono ?_
  rintro e w6 ⟨rfl, rfl⟩
  go_wp2_with fail
  refine (fits_256 _).mono ?_
  rintro e w7 ⟨rfl, rfl⟩
  go_wp2_with fail
  go_ret
  have s2 := Nat.le_trans hb1.size hb2.size
  have s3 := Nat.le_trans s2 hb3.size
  have s4 := Nat.le_trans s3 hb4.size
  exact ⟨rfl, hb1.trans ((hb2.mono hb1.size).trans ((hb3.mono s2).trans ((hb4.mono s3).trans (hb5.mono s4))))⟩

end Go.Proofs.Ytmgjfgfnlljbeaa
