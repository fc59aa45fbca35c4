/-
  How two numbers stand (cmp.Compare), the first that is not zero (cmp.Or): what each call answers.
  No condition.
-/
import Derived.Test.YtmnpbjaofemelaaMb
namespace Go.Proofs.Ytmnpbjaofemelaa
set_option maxRecDepth 10000
open Go.RowKit Go.Sort

def cmpI (x y : Int) : Int := if x < y then -1 else if y < x then 1 else 0
def orI : List Int → Int
  | [] => 0
  | x :: l => if x = 0 then orI l else x
theorem cmpI_three (x y : Int) : (x < y ∧ cmpI x y = -1) ∨ (¬ x < y ∧ y < x ∧ cmpI x y = 1) ∨ (¬ x < y ∧ ¬ y < x ∧ cmpI x y = 0) := by
  unfold cmpI
  by_cases h1 : x < y
  · simp [h1]
  · by_cases h2 : y < x
    · simp [h1, h2]
    · simp [h1, h2]

theorem isNaN_u (x : Int) (w : World) : Calls Try.prog 44 #[.int .u32 x] w fun e w' => e = .returned (.bool false) ∧ w' = w := by
  go_enter Try.func44, Try.ntmps44
  go_wp2_with fail
  go_ret
  exact ⟨rfl, rfl⟩

theorem isNaN_i (x : Int) (w : World) : Calls Try.prog 45 #[.int .i64 x] w fun e w' => e = .returned (.bool false) ∧ w' = w := by
  go_enter Try.func45, Try.ntmps45
  go_wp2_with fail
  go_ret
  exact ⟨rfl, rfl⟩

theorem cmpU_ok (x y : Int) (w : World) : Calls Try.prog 39 #[.int .u32 x, .int .u32 y] w fun e w' => e = .returned (.int .i64 (cmpI x y)) ∧ w' = w := by
  rcases cmpI_three x y with ⟨h1, h⟩ | ⟨h1, h2, h⟩ | ⟨h1, h2, h⟩
  all_goals
    rw [h]
    go_enter Try.func39, Try.ntmps39
    go_wp2_with fail
    refine (isNaN_u x w).mono ?_
    rintro r w1 ⟨rfl, rfl⟩
    go_wp2_with fail
    refine (isNaN_u y _).mono ?_
    rintro r w1 ⟨rfl, rfl⟩
    go_wp2_with fail
    go_ret
    exact ⟨rfl, rfl⟩

theorem cmpI_ok (x y : Int) (w : World) : Calls Try.prog 40 #[.int .i64 x, .int .i64 y] w fun e w' => e = .returned (.int .i64 (cmpI x y)) ∧ w' = w := by
  rcases cmpI_three x y with ⟨h1, h⟩ | ⟨h1, h2, h⟩ | ⟨h1, h2, h⟩
  all_goals
    rw [h]
    go_enter Try.func40, Try.ntmps40
    go_wp2_with fail
    refine (isNaN_i x w).mono ?_
    rintro r w1 ⟨rfl, rfl⟩
    go_wp2_with fail
    refine (isNaN_i y _).mono ?_
    rintro r w1 ⟨rfl, rfl⟩
    go_wp2_with fail
    go_ret
    exact ⟨rfl, rfl⟩

theorem orI_drop (L : List Int) (j : Nat) (x : Int) (hx : L[j]? = some x) : orI (L.drop j) = if x = 0 then orI (L.drop (j + 1)) else x := by
  have hj : j < L.length := (List.getElem?_eq_some_iff.1 hx).1
  rw [List.drop_eq_getElem_cons hj]
  have : L[j] = x := by rw [List.getElem?_eq_getElem hj] at hx; injection hx
  rw [this]
  rfl

set_option maxHeartbeats 1000000 in
theorem or_ok (la : Option Addr) (L : List Int) (lc : Nat) (lm : L.length ≤ 9223372036854775807) (w : World) (hL : Li iv 0 la L w) : Calls Try.prog 38 #[.slice la L.length lc] w fun e w' => e = .returned (.int .i64 (orI L)) ∧ w' = w := by
  obtain ⟨n, hn⟩ : ∃ n, L.length = n := ⟨_, rfl⟩
  rw [hn] at lm ⊢
  have HN : Hid (L.length = n) := hn
  obtain ⟨R, hR⟩ : ∃ R, Hid (orI L = R) := ⟨_, rfl⟩
  rw [hR.out]
  clear hn
  go_enter Try.func38, Try.ntmps38
  go_wp2_with fail
  go_loopw [8] (fun iv wr => ∃ j : Nat, j ≤ n ∧ iv = .int .i64 j ∧ wr = w ∧ Hid (orI (L.drop j) = R)) (fun iv _ => n - (intOf iv).toNat)
  case atStart => exact ⟨0, by omega, rfl, rfl, hR⟩
  case round =>
    clear hR
    obtain ⟨j, hj, rfl, rfl, hR⟩ := hrel
    by_cases hjn : j < n
    · have j0 : (j : Int) < (n : Int) := by omega
      have j1 : (0 : Int) ≤ (j : Int) := by omega
      obtain ⟨x, hx⟩ : ∃ x, L[j]? = some x := ⟨_, List.getElem?_eq_getElem (by rw [HN.out]; exact hjn)⟩
      have hst := orI_drop L j x hx
      obtain ⟨b, o, rfl, _, hbl, hr⟩ := hL.at iv_length j x hx
      have c0 : wr.cell? ⟨b, o + j, none⟩ = some (.int .i64 x) := by have := hr 0 _ rfl; simpa using this
      by_cases h0 : x = 0
      · rw [if_pos h0, hR.out] at hst
        have HS : Hid (orI (L.drop (j + 1)) = R) := hst.symm
        subst h0
        clear hst hR hx hr
        go_wp2_with fail
        refine ⟨⟨j + 1, by omega, by go_num, trivial, HS⟩, by simp [intOf]; omega⟩
      · rw [if_neg h0, hR.out] at hst
        subst hst
        clear hR hx hr
        go_wp2_with fail
        go_ret
        exact ⟨rfl, rfl⟩
    · obtain rfl : j = n := by omega
      have hz := hR.out
      rw [List.drop_of_length_le (by rw [HN.out]; omega)] at hz
      subst hz
      clear hR HN
      go_wp2_with fail
      go_ret
      exact ⟨rfl, rfl⟩

theorem bsInts3 (p q r : Int) (w : World) : (Instr.buildSlice 76 3 #[(0, .int .i64 p), (1, .int .i64 q), (2, .int .i64 r)]).run Try.prog w = .ok (.slice (some ⟨w.heap.size, 0, none⟩) 3 3) (w.alloc (.cells (flat iv [p, q, r]).toArray 3)) := by kernel_rfl
theorem wp_ints3 {o : Oper} {a : Act} {w : World} {K : Act → World → Prop} {Q : Exit → Act → World → Prop} (x y z : Operand) (ho : o.op = .buildSlice 76 3 #[(0, x), (1, y), (2, z)]) (p q r : Int) (h0 : a.eval x = .int .i64 p) (h1 : a.eval y = .int .i64 q) (h2 : a.eval z = .int .i64 r)
    (h : K (a.put o.dst (.slice (some ⟨w.heap.size, 0, none⟩) 3 3)) (w.alloc (.cells (flat iv [p, q, r]).toArray 3))) : o.wp Try.prog a w K Q := by
  unfold Oper.wp execOp
  simp only [ho, List.map_toArray, List.map_cons, List.map_nil, h0, h1, h2, Sem.run_bind, Sem.run_pure, bsInts3, Result.andThen_ok]
  exact h

end Go.Proofs.Ytmnpbjaofemelaa
