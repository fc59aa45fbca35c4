/-
  How two numbers stand (cmp.Compare), the first that is not zero (cmp.Or), how two Ids stand (ident.Compare): what each call answers.
  No condition.
-/
import Derived.Test.YtbgfhmnlnjlnhaaIm
namespace Go.Proofs.Ytbgfhmnlnjlnhaa
set_option maxRecDepth 10000
open Go.RowKit Go.Sort

def cmpN (x y : Nat) : Int := if x < y then -1 else if y < x then 1 else 0
def orI : List Int → Int
  | [] => 0
  | x :: l => if x = 0 then orI l else x
def cmpId (a b : Idn) : Int := orI [cmpN a.e b.e, cmpN a.c b.c, cmpN a.i b.i]

theorem isNaN_ok (x : Nat) (w : World) : Calls Try.prog 23 #[.int .u32 (x : Int)] w fun e w' => e = .returned (.bool false) ∧ w' = w := by
  go_enter Try.func23, Try.ntmps23
  go_wp2_with fail
  go_ret
  exact ⟨rfl, rfl⟩

theorem cmpN_ok (x y : Nat) (w : World) : Calls Try.prog 21 #[.int .u32 (x : Int), .int .u32 (y : Int)] w fun e w' => e = .returned (.int .i64 (cmpN x y)) ∧ w' = w := by
  have h : (x < y ∧ cmpN x y = -1) ∨ (¬ x < y ∧ y < x ∧ cmpN x y = 1) ∨ (¬ x < y ∧ ¬ y < x ∧ cmpN x y = 0) := by
    unfold cmpN
    by_cases h1 : x < y
    · simp [h1]
    · by_cases h2 : y < x
      · simp [h1, h2]
      · simp [h1, h2]
  rcases h with ⟨h1, h⟩ | ⟨h1, h2, h⟩ | ⟨h1, h2, h⟩
  · rw [h]
    have h1' : (x : Int) < (y : Int) := by omega
    go_enter Try.func21, Try.ntmps21
    go_wp2_with fail
    refine (isNaN_ok x w).mono ?_
    rintro r w1 ⟨rfl, rfl⟩
    go_wp2_with fail
    refine (isNaN_ok y _).mono ?_
    rintro r w1 ⟨rfl, rfl⟩
    go_wp2_with fail
    go_ret
    exact ⟨rfl, rfl⟩
  · rw [h]
    have h1' : ¬ (x : Int) < (y : Int) := by omega
    have h2' : (y : Int) < (x : Int) := by omega
    go_enter Try.func21, Try.ntmps21
    go_wp2_with fail
    refine (isNaN_ok x w).mono ?_
    rintro r w1 ⟨rfl, rfl⟩
    go_wp2_with fail
    refine (isNaN_ok y _).mono ?_
    rintro r w1 ⟨rfl, rfl⟩
    go_wp2_with fail
    go_ret
    exact ⟨rfl, rfl⟩
  · rw [h]
    have h1' : ¬ (x : Int) < (y : Int) := by omega
    have h2' : ¬ (y : Int) < (x : Int) := by omega
    go_enter Try.func21, Try.ntmps21
    go_wp2_with fail
    refine (isNaN_ok x w).mono ?_
    rintro r w1 ⟨rfl, rfl⟩
    go_wp2_with fail
    refine (isNaN_ok y _).mono ?_
    rintro r w1 ⟨rfl, rfl⟩
    go_wp2_with fail
    go_ret
    exact ⟨rfl, rfl⟩

theorem orI_drop (L : List Int) (j : Nat) (x : Int) (hx : L[j]? = some x) : orI (L.drop j) = if x = 0 then orI (L.drop (j + 1)) else x := by
  have hj : j < L.length := (List.getElem?_eq_some_iff.1 hx).1
  rw [List.drop_eq_getElem_cons hj]
  have : L[j] = x := by rw [List.getElem?_eq_getElem hj] at hx; injection hx
  rw [this]
  rfl

set_option maxHeartbeats 1000000 in
theorem or_ok (la : Option Addr) (L : List Int) (lc : Nat) (lm : L.length ≤ 9223372036854775807) (w : World) (hL : Li iv 0 la L w) : Calls Try.prog 20 #[.slice la L.length lc] w fun e w' => e = .returned (.int .i64 (orI L)) ∧ w' = w := by
  obtain ⟨n, hn⟩ : ∃ n, L.length = n := ⟨_, rfl⟩
  rw [hn] at lm ⊢
  have HN : Hid (L.length = n) := hn
  obtain ⟨R, hR⟩ : ∃ R, Hid (orI L = R) := ⟨_, rfl⟩
  rw [hR.out]
  clear hn
  go_enter Try.func20, Try.ntmps20
  go_wp2_with fail
  go_loopw [8] (fun iv wr => ∃ j : Nat, j ≤ n ∧ iv = .int .i64 j ∧ wr = w ∧ Hid (orI (L.drop j) = R)) (fun iv _ => n - (intOf iv).toNat)
  case atStart => exact ⟨0, by omega, rfl, rfl, hR⟩
  case round =>
    clear hR
    obtain ⟨j, hj, rfl, rfl, hR⟩ := hrel
    by_cases hjn : j < n
    · have j0 : (j : Int) < (n : Int) := by omega
      have j1 : (0 : Int) ≤ (j : Int) := by omega
      obtain ⟨x, hx⟩ : ∃ x, L[j]? = some x := ⟨_, List.getElem?_eq_getElem (by rw [HN.out]; exact hjn)⟩
      have hst := orI_drop L j x hx
      obtain ⟨b, o, rfl, _, hbl, hr⟩ := hL.at iv_length j x hx
      have c0 : wr.cell? ⟨b, o + j, none⟩ = some (.int .i64 x) := by have := hr 0 _ rfl; simpa using this
      by_cases h0 : x = 0
      · rw [if_pos h0, hR.out] at hst
        have HS : Hid (orI (L.drop (j + 1)) = R) := hst.symm
        subst h0
        clear hst hR hx hr
        go_wp2_with fail
        refine ⟨⟨j + 1, by omega, by go_num, trivial, HS⟩, by simp [intOf]; omega⟩
      · rw [if_neg h0, hR.out] at hst
        subst hst
        clear hR hx hr
        go_wp2_with fail
        go_ret
        exact ⟨rfl, rfl⟩
    · obtain rfl : j = n := by omega
      have hz := hR.out
      rw [List.drop_of_length_le (by rw [HN.out]; omega)] at hz
      subst hz
      clear hR HN
      go_wp2_with fail
      go_ret
      exact ⟨rfl, rfl⟩

end Go.Proofs.Ytbgfhmnlnjlnhaa
