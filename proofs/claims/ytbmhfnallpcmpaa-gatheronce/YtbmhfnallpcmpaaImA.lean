/-
  How two numbers stand (cmp.Compare), the first that is not zero (cmp.Or), how two Ids stand (ident.Compare): what each call answers.
  No condition.
-/
import Derived.Test.YtbmhfnallpcmpaaCm
import Derived.Test.YtbmhfnallpcmpaaIm
namespace Go.Proofs.Ytbmhfnallpcmpaa
set_option maxRecDepth 10000
open Go.RowKit Go.Sort

def cmpN (x y : Nat) : Int := if x < y then -1 else if y < x then 1 else 0
def cmpId (a b : Idn) : Int := orI [cmpN a.e b.e, cmpN a.c b.c, cmpN a.i b.i]

theorem isNaN_ok (x : Nat) (w : World) : Calls Try.prog 42 #[.int .u32 (x : Int)] w fun e w' => e = .returned (.bool false) ∧ w' = w := by
  go_enter Try.func42, Try.ntmps42
  go_wp2_with fail
  go_ret
  exact ⟨rfl, rfl⟩

theorem cmpN_ok (x y : Nat) (w : World) : Calls Try.prog 29 #[.int .u32 (x : Int), .int .u32 (y : Int)] w fun e w' => e = .returned (.int .i64 (cmpN x y)) ∧ w' = w := by
  have h : (x < y ∧ cmpN x y = -1) ∨ (¬ x < y ∧ y < x ∧ cmpN x y = 1) ∨ (¬ x < y ∧ ¬ y < x ∧ cmpN x y = 0) := by
    unfold cmpN
    by_cases h1 : x < y
    · simp [h1]
    · by_cases h2 : y < x
      · simp [h1, h2]
      · simp [h1, h2]
  rcases h with ⟨h1, h⟩ | ⟨h1, h2, h⟩ | ⟨h1, h2, h⟩
  · rw [h]
    have h1' : (x : Int) < (y : Int) := by omega
    go_enter Try.func29, Try.ntmps29
    go_wp2_with fail
    refine (isNaN_ok x w).mono ?_
    rintro r w1 ⟨rfl, rfl⟩
    go_wp2_with fail
    refine (isNaN_ok y _).mono ?_
    rintro r w1 ⟨rfl, rfl⟩
    go_wp2_with fail
    go_ret
    exact ⟨rfl, rfl⟩
  · rw [h]
    have h1' : ¬ (x : Int) < (y : Int) := by omega
    have h2' : (y : Int) < (x : Int) := by omega
    go_enter Try.func29, Try.ntmps29
    go_wp2_with fail
    refine (isNaN_ok x w).mono ?_
    rintro r w1 ⟨rfl, rfl⟩
    go_wp2_with fail
    refine (isNaN_ok y _).mono ?_
    rintro r w1 ⟨rfl, rfl⟩
    go_wp2_with fail
    go_ret
    exact ⟨rfl, rfl⟩
  · rw [h]
    have h1' : ¬ (x : Int) < (y : Int) := by omega
    have h2' : ¬ (y : Int) < (x : Int) := by omega
    go_enter Try.func29, Try.ntmps29
    go_wp2_with fail
    refine (isNaN_ok x w).mono ?_
    rintro r w1 ⟨rfl, rfl⟩
    go_wp2_with fail
    refine (isNaN_ok y _).mono ?_
    rintro r w1 ⟨rfl, rfl⟩
    go_wp2_with fail
    go_ret
    exact ⟨rfl, rfl⟩

end Go.Proofs.Ytbmhfnallpcmpaa
