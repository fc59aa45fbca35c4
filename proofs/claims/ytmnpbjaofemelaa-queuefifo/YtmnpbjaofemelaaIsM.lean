/-
  Who is a member; whether a number is in a list of ints: what slices.Index and slices.Contains answer.
  No condition.
-/
import Derived.Test.YtmnpbjaofemelaaLs
namespace Go.Proofs.Ytmnpbjaofemelaa
set_option maxRecDepth 10000
open Go.RowKit Go.Sort

theorem mem_lst (m : Nat → Nat) (d : Nat) : d ∈ lst m ↔ d < 8 ∧ m d ≠ 0 := by simp [lst, lstTo]
theorem at_lst (m : Nat → Nat) (j d : Nat) (h : (lst m)[j]? = some d) : d < 8 ∧ m d ≠ 0 := (mem_lst m d).1 (List.mem_of_getElem? h)

def isM (m : Nat → Nat) (i : Int) : Bool := decide (0 ≤ i ∧ i < 8 ∧ m i.toNat ≠ 0)
theorem isM_nat (m : Nat → Nat) (d : Nat) : isM m (d : Int) = true ↔ d ∈ lst m := by
  unfold isM
  rw [decide_eq_true_eq, mem_lst, Int.toNat_natCast]
  constructor
  · rintro ⟨_, h1, h2⟩; exact ⟨by omega, h2⟩
  · rintro ⟨h1, h2⟩; exact ⟨by omega, by omega, h2⟩
theorem isM_iff (m : Nat → Nat) (i : Int) : isM m i = true ↔ ∃ d : Nat, i = (d : Int) ∧ d ∈ lst m := by
  constructor
  · intro h
    have h' := h
    unfold isM at h'
    rw [decide_eq_true_eq] at h'
    obtain ⟨d, rfl⟩ : ∃ d : Nat, i = (d : Int) := ⟨i.toNat, by omega⟩
    exact ⟨d, rfl, (isM_nat m d).1 h⟩
  · rintro ⟨d, rfl, h⟩
    exact (isM_nat m d).2 h

/- Is a number in a list? -/
def hasL (L : List Nat) (v : Int) : Bool := L.any fun d => decide ((d : Int) = v)
theorem hasL_isM (m : Nat → Nat) (v : Int) : hasL (lst m) v = isM m v := by
  rw [Bool.eq_iff_iff, isM_iff, hasL, List.any_eq_true]
  constructor
  · rintro ⟨d, h1, h2⟩
    exact ⟨d, (of_decide_eq_true h2).symm, h1⟩
  · rintro ⟨d, rfl, h⟩
    exact ⟨d, h, by simp⟩
def Found (L : List Nat) (v : Int) (e : Ending) : Prop := ∃ k : Int, e = .returned (.int .i64 k) ∧ decide (0 ≤ k) = hasL L v

set_option maxHeartbeats 1000000 in
theorem index_ok (L : List Nat) (la : Option Addr) (lc : Nat) (v : Int) (lm : L.length ≤ 9223372036854775807) (w : World) (hS : Li nv 0 la L w) : Calls Try.prog 46 #[.slice la L.length lc, .int .i64 v] w fun e w' => Found L v e ∧ w' = w := by
  obtain ⟨n, hn⟩ : ∃ n, L.length = n := ⟨_, rfl⟩
  rw [hn] at lm ⊢
  have HN : Hid (L.length = n) := hn
  clear hn
  go_enter Try.func46, Try.ntmps46
  go_wp2_with fail
  go_loopw [8] (fun iv wr => ∃ j : Nat, j ≤ n ∧ iv = .int .i64 j ∧ wr = w ∧ Hid (∀ d ∈ L.take j, (d : Int) ≠ v)) (fun iv _ => n - (intOf iv).toNat)
  case atStart => exact ⟨0, by omega, rfl, rfl, fun d h => by simp at h⟩
  case round =>
    obtain ⟨j, hj, rfl, rfl, h0⟩ := hrel
    by_cases hjn : j < n
    · have j0 : (j : Int) < (n : Int) := by omega
      have j1 : (0 : Int) ≤ (j : Int) := by omega
      obtain ⟨d, hd⟩ : ∃ d, L[j]? = some d := ⟨_, List.getElem?_eq_getElem (by rw [HN.out]; exact hjn)⟩
      obtain ⟨b, o, rfl, _, hbl, hr⟩ := hS.at nv_length j d hd
      have c0 : wr.cell? ⟨b, o + j, none⟩ = some (.int .i64 (d : Int)) := by have := hr 0 _ rfl; simpa using this
      by_cases hv : (d : Int) = v
      · have HF : Found L v (.returned (.int .i64 (j : Int))) := ⟨j, rfl, by
          rw [decide_eq_true j1, eq_comm, hasL, List.any_eq_true]
          exact ⟨d, List.mem_of_getElem? hd, by simp [hv]⟩⟩
        have hv' : (v == (d : Int)) = true := by simp [hv]
        clear hv hr hd h0 hS
        go_wp2_with fail
        go_ret
        exact ⟨HF, rfl⟩
      · have HS : Hid (∀ d ∈ L.take (j + 1), (d : Int) ≠ v) := by
          intro e he
          rw [List.take_add_one, hd] at he
          rcases List.mem_append.1 he with he | he
          · exact h0.out e he
          · simp at he
            rw [he]
            exact hv
        have hv' : (v == (d : Int)) = false := by rw [beq_eq_false_iff_ne]; exact fun h => hv h.symm
        clear hv hr hd h0
        go_wp2_with fail
        exact ⟨⟨j + 1, by omega, by go_num, trivial, HS⟩, by simp [intOf]; omega⟩
    · obtain rfl : j = n := by omega
      have HF : Found L v (.returned (.int .i64 (-1))) := ⟨-1, rfl, by
        rw [decide_eq_false (by omega), eq_comm, hasL, List.any_eq_false]
        intro d hd
        have := h0.out d (by rw [List.take_of_length_le (by rw [HN.out]; omega)]; exact hd)
        simpa using this⟩
      clear h0 HN hS
      go_wp2_with fail
      go_ret
      exact ⟨HF, rfl⟩

theorem contains_ok (L : List Nat) (la : Option Addr) (lc : Nat) (v : Int) (lm : L.length ≤ 9223372036854775807) (w : World) (hS : Li nv 0 la L w) : Calls Try.prog 41 #[.slice la L.length lc, .int .i64 v] w fun e w' => e = .returned (.bool (hasL L v)) ∧ w' = w := by
  go_enter Try.func41, Try.ntmps41
  go_wp2_with fail
  refine (index_ok L la lc v lm w hS).mono ?_
  rintro r w1 ⟨⟨k, rfl, hk⟩, rfl⟩
  obtain ⟨t, ht⟩ : ∃ t, hasL L v = t := ⟨_, rfl⟩
  rw [ht] at hk
  have HT : Hid (hasL L v = t) := ht
  clear ht hS
  go_wp2_with fail
  go_ret
  exact ⟨by rw [HT.out]; rfl, rfl⟩

end Go.Proofs.Ytmnpbjaofemelaa
