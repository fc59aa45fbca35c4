/-
  The calls whose answers the document fixes answer so: fixed returns true. Of the memory that was there nothing turns.
  No condition.
-/
import Derived.Test.YtbkhenooimjcfaaWc
namespace Go.Proofs.Ytbkhenooimjcfaa
open Go.RowKit

theorem of_const (s : ByteArray) (n : Int) (hs : s.size ≤ 140737488351232) (hn : ((Crc.sum s.data.toList).toNat : Int) = n) (w : World) :
    Calls Try.prog 9 #[.string s] w fun e w' => e = .returned (.int .u32 n) ∧ w' = w := by
  subst hn; exact of_any s w (by unfold maxLen; omega)
theorem seal_const (s t : ByteArray) (hs : s.size ≤ 140737488351232) (ht : s ++ Crc.four (Crc.sum s.data.toList) = t) (w : World) :
    Calls Try.prog 13 #[.string s] w fun e w' => e = .returned (.string t) ∧ Below w.heap.size w w' := by
  subst ht; exact seal_any s w hs
theorem ok_const (s : ByteArray) (b : Bool) (hs : s.size ≤ 140737488355328) (hb : Crc.okL s.data.toList = b) (w : World) :
    Calls Try.prog 15 #[.string s] w fun e w' => e = .returned (.bool b) ∧ Below w.heap.size w w' := by
  subst hb; exact ok_any s w hs

theorem of_0 : ∀ w : World, Calls Try.prog 9 #[.string ⟨#[]⟩] w fun e w' => e = .returned (.int .u32 0) ∧ w' = w :=
  of_const ⟨#[]⟩ 0 (by decide) (by decide +kernel)
theorem of_a : ∀ w : World, Calls Try.prog 9 #[.string ⟨#[97]⟩] w fun e w' => e = .returned (.int .u32 3904355907) ∧ w' = w :=
  of_const ⟨#[97]⟩ 3904355907 (by decide) (by decide +kernel)
theorem of_9 : ∀ w : World, Calls Try.prog 9 #[.string ⟨#[49, 50, 51, 52, 53, 54, 55, 56, 57]⟩] w fun e w' => e = .returned (.int .u32 3421780262) ∧ w' = w :=
  of_const ⟨#[49, 50, 51, 52, 53, 54, 55, 56, 57]⟩ 3421780262 (by decide) (by decide +kernel)
theorem seal_0 : ∀ w : World, Calls Try.prog 13 #[.string ⟨#[]⟩] w fun e w' => e = .returned (.string ⟨#[0, 0, 0, 0]⟩) ∧ Below w.heap.size w w' :=
  seal_const ⟨#[]⟩ ⟨#[0, 0, 0, 0]⟩ (by decide) (by decide +kernel)
theorem ok_0 : ∀ w : World, Calls Try.prog 15 #[.string ⟨#[0, 0, 0, 0]⟩] w fun e w' => e = .returned (.bool true) ∧ Below w.heap.size w w' :=
  ok_const ⟨#[0, 0, 0, 0]⟩ true (by decide) (by decide +kernel)
theorem ok_1 : ∀ w : World, Calls Try.prog 15 #[.string ⟨#[0, 0, 0, 1]⟩] w fun e w' => e = .returned (.bool false) ∧ Below w.heap.size w w' :=
  ok_const ⟨#[0, 0, 0, 1]⟩ false (by decide) (by decide +kernel)
theorem ok_e : ∀ w : World, Calls Try.prog 15 #[.string ⟨#[]⟩] w fun e w' => e = .returned (.bool false) ∧ Below w.heap.size w w' :=
  ok_const ⟨#[]⟩ false (by decide) (by decide +kernel)

set_option maxHeartbeats 400000 in
theorem fixed_any (w : World) : Calls Try.prog 8 #[] w fun e w' => e = .returned (.bool true) ∧ Below w.heap.size w w' := by
  go_enter Try.func8, Try.ntmps8
  go_wp2_with fail
  refine (of_0 _).mono ?_
  rintro e w1 ⟨rfl, rfl⟩
  go_wp2_with fail
  refine (of_a _).mono ?_
  rintro e w1 ⟨rfl, rfl⟩
  go_wp2_with fail
  refine (of_9 _).mono ?_
  rintro e w1 ⟨rfl, rfl⟩
  go_wp2_with fail
  refine (seal_0 _).mono ?_
  rintro e w2 ⟨rfl, hb2⟩
  go_wp2_with fail
  refine (ok_0 _).mono ?_
  rintro e w3 ⟨rfl, hb3⟩
  go_wp2_with fail
  refine (ok_1 _).mono ?_
  rintro e w4 ⟨rfl, hb4⟩
  go_wp2_with fail
  refine (ok_e _).mono ?_
  rintro e w5 ⟨rfl, hb5⟩
  go_wp2_with fail
  go_ret
  exact ⟨rfl, hb2.trans ((hb3.mono hb2.size).trans ((hb4.mono (Nat.le_trans hb2.size hb3.size)).trans (hb5.mono (Nat.le_trans hb2.size (Nat.le_trans hb3.size hb4.size)))))⟩

end Go.Proofs.Ytbkhenooimjcfaa
