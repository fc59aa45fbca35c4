/-
  Which entries may be: what isBelow, isAddressed and mayBe return. Of the memory that was there nothing turns.
  No condition.
-/
import Derived.Test.YtmbddjejbmjmfaaPackWe
import Derived.Test.YtmbddjejbmjmfaaEntEq
namespace Go.Proofs.Ytmbddjejbmjmfaa
set_option maxRecDepth 10000
open Go.RowKit

theorem isBelow_any (n m : Int) (w : World) : Calls Try.prog 81 #[.int .i64 n, .int .i64 m] w fun e w' => e = .returned (.bool (decide (0 ≤ n) && decide (n < m))) ∧ w' = w := by
  by_cases h1 : 0 ≤ n
  · rw [decide_eq_true h1]
    go_enter Try.func81, Try.ntmps81
    go_wp2
    go_ret
    exact ⟨rfl, rfl⟩
  · rw [decide_eq_false h1]
    go_enter Try.func81, Try.ntmps81
    go_wp2
    go_ret
    exact ⟨rfl, rfl⟩

theorem below_box (w : World) (o : Obj) : Below w.heap.size w (w.alloc o) := (Below.refl _ w).alloc (Nat.le_refl _) _

theorem isAddressed_any (k sv g : Int) (se n : Nat) (t : ByteArray) (w : World) :
    Calls Try.prog 82 #[.agg #[.int .i64 k, .int .i64 sv, .int .i64 g, .int .u64 (se : Int), .int .u64 (n : Int), .string t]] w fun e w' =>
      e = .returned (.bool (Ent.addr g se n)) ∧ Below w.heap.size w w' := by
  have h1 := fun w => isBelow_any g 8 w
  have h2 := fun w => fits_ok se 2 (by decide) (by decide) w
  have h3 := fun w => fits_ok n 4 (by decide) (by decide) w
  unfold Ent.addr
  generalize (decide (0 ≤ g) && decide (g < 8)) = a at h1 ⊢
  generalize decide (se < 256 ^ 2) = b at h2 ⊢
  generalize decide (n < 256 ^ 4) = c at h3 ⊢
  cases a
  · go_enter Try.func82, Try.ntmps82
    go_wp2_with fail
    refine (h1 _).mono ?_
    rintro e w1 ⟨rfl, rfl⟩
    go_wp2_with fail
    go_ret
    exact ⟨rfl, below_box _ _⟩
  · cases b
    · go_enter Try.func82, Try.ntmps82
      go_wp2_with fail
      refine (h1 _).mono ?_
      rintro e w1 ⟨rfl, rfl⟩
      go_wp2_with fail
      refine (h2 _).mono ?_
      rintro e w1 ⟨rfl, rfl⟩
      go_wp2_with fail
      go_ret
      exact ⟨rfl, below_box _ _⟩
    · go_enter Try.func82, Try.ntmps82
      go_wp2_with fail
      refine (h1 _).mono ?_
      rintro e w1 ⟨rfl, rfl⟩
      go_wp2_with fail
      refine (h2 _).mono ?_
      rintro e w1 ⟨rfl, rfl⟩
      go_wp2_with fail
      refine (h3 _).mono ?_
      rintro e w1 ⟨rfl, rfl⟩
      go_wp2_with fail
      go_ret
      exact ⟨rfl, below_box _ _⟩

theorem may_0 (sv g : Int) (se n : Nat) (t : ByteArray) : decide ((0 : Int) = 0 ∧ sv = 0 ∧ g = 0 ∧ (se : Int) = 0 ∧ (n : Int) = 0 ∧ t = ⟨#[]⟩) = Ent.may 0 sv g se n t := by
  unfold Ent.may
  rw [if_pos rfl]
  have h : (t = ⟨#[]⟩) = (t.size = 0) := propext ⟨fun e => by rw [e]; rfl, fun e => ByteArray.ext (Array.eq_empty_of_size_eq_zero e)⟩
  have h1 : ((se : Int) = 0) = (se = 0) := propext ⟨fun e => by omega, fun e => by omega⟩
  have h2 : ((n : Int) = 0) = (n = 0) := propext ⟨fun e => by omega, fun e => by omega⟩
  rw [Bool.eq_iff_iff]
  simp only [h, h1, h2, decide_eq_true_iff, Bool.and_eq_true]
  exact ⟨fun ⟨_, a, b, c, d, e⟩ => ⟨⟨⟨⟨a, b⟩, c⟩, d⟩, e⟩, fun ⟨⟨⟨⟨a, b⟩, c⟩, d⟩, e⟩ => ⟨trivial, a, b, c, d, e⟩⟩

theorem no_bytes {t : ByteArray} (h : ¬ t = ⟨#[]⟩) : (t.toList == []) = false := by
  rw [beq_eq_false_iff_ne, ByteArray.toList_eq]
  intro e
  exact h (ByteArray.ext (Array.ext' e))

theorem mayBe_0 (sv g : Int) (se n : Nat) (t : ByteArray) (w : World) :
    Calls Try.prog 77 #[.agg #[.int .i64 0, .int .i64 sv, .int .i64 g, .int .u64 (se : Int), .int .u64 (n : Int), .string t]] w fun e w' =>
      e = .returned (.bool (Ent.may 0 sv g se n t)) ∧ Below w.heap.size w w' := by
  have keq := eql_ent 0 sv g se n t 0 0 0 0 0 ⟨#[]⟩ _ (may_0 sv g se n t)
  generalize Ent.may 0 sv g se n t = b at keq ⊢
  go_enter Try.func77, Try.ntmps77
  go_wp2_with fail
  go_ret
  exact ⟨rfl, below_box _ _⟩

theorem mayBe_1 (sv g : Int) (se n : Nat) (t : ByteArray) (w : World) :
    Calls Try.prog 77 #[.agg #[.int .i64 1, .int .i64 sv, .int .i64 g, .int .u64 (se : Int), .int .u64 (n : Int), .string t]] w fun e w' =>
      e = .returned (.bool (Ent.may 1 sv g se n t)) ∧ Below w.heap.size w w' := by
  have h1 := fun w => isBelow_any sv 4 w
  have h2 := fun w => isAddressed_any 1 sv g se n t w
  have hm : Ent.may 1 sv g se n t = (decide (0 ≤ sv) && decide (sv < 4) && decide (t.size ≤ 16) && Ent.addr g se n) := rfl
  rw [hm]
  clear hm
  generalize (decide (0 ≤ sv) && decide (sv < 4)) = a at h1 ⊢
  generalize Ent.addr g se n = b at h2 ⊢
  cases a
  · go_enter Try.func77, Try.ntmps77
    go_wp2_with fail
    refine (h1 _).mono ?_
    rintro e w1 ⟨rfl, rfl⟩
    go_wp2_with fail
    go_ret
    exact ⟨rfl, below_box _ _⟩
  · by_cases ht : t.size ≤ 16
    · rw [decide_eq_true ht]
      go_enter Try.func77, Try.ntmps77
      go_wp2_with fail
      refine (h1 _).mono ?_
      rintro e w1 ⟨rfl, rfl⟩
      go_wp2_with fail
      refine (h2 _).mono ?_
      rintro e w2 ⟨rfl, hb2⟩
      go_wp2_with fail
      go_ret
      exact ⟨rfl, (below_box _ _).trans (hb2.mono (below_box _ _).size)⟩
    · rw [decide_eq_false ht]
      go_enter Try.func77, Try.ntmps77
      go_wp2_with fail
      refine (h1 _).mono ?_
      rintro e w1 ⟨rfl, rfl⟩
      go_wp2_with fail
      go_ret
      exact ⟨rfl, below_box _ _⟩

theorem mayBe_2 (sv g : Int) (se n : Nat) (t : ByteArray) (w : World) :
    Calls Try.prog 77 #[.agg #[.int .i64 2, .int .i64 sv, .int .i64 g, .int .u64 (se : Int), .int .u64 (n : Int), .string t]] w fun e w' =>
      e = .returned (.bool (Ent.may 2 sv g se n t)) ∧ Below w.heap.size w w' := by
  have h2 := fun w => isAddressed_any 2 sv g se n t w
  have hm : Ent.may 2 sv g se n t = (decide (sv = 2) && decide (t.size = 0) && Ent.addr g se n) := rfl
  rw [hm]
  clear hm
  generalize Ent.addr g se n = b at h2 ⊢
  by_cases hs : sv = 2
  · subst hs
    by_cases ht : t = ⟨#[]⟩
    · subst ht
      go_enter Try.func77, Try.ntmps77
      go_wp2_with fail
      refine (h2 _).mono ?_
      rintro e w2 ⟨rfl, hb2⟩
      go_wp2_with fail
      go_ret
      exact ⟨rfl, (below_box _ _).trans (hb2.mono (below_box _ _).size)⟩
    · have ht' : ¬ t.size = 0 := fun e => ht (ByteArray.ext (Array.eq_empty_of_size_eq_zero e))
      rw [decide_eq_false ht']
      have hd : (t.toList == []) = false := no_bytes ht
      clear ht' ht
      go_enter Try.func77, Try.ntmps77
      go_wp2_with fail
      go_ret
      exact ⟨rfl, below_box _ _⟩
  · rw [decide_eq_false hs]
    have hc : (sv == 2) = false := by rw [beq_eq_false_iff_ne]; exact hs
    clear hs
    go_enter Try.func77, Try.ntmps77
    go_wp2_with fail
    go_ret
    exact ⟨rfl, below_box _ _⟩

theorem mayBe_3 (sv g : Int) (se n : Nat) (t : ByteArray) (w : World) :
    Calls Try.prog 77 #[.agg #[.int .i64 3, .int .i64 sv, .int .i64 g, .int .u64 (se : Int), .int .u64 (n : Int), .string t]] w fun e w' =>
      e = .returned (.bool (Ent.may 3 sv g se n t)) ∧ Below w.heap.size w w' := by
  have h2 := fun w => isAddressed_any 3 sv g se n t w
  have hm : Ent.may 3 sv g se n t = (decide (sv = 2) && decide (t.size = 0) && Ent.addr g se n) := rfl
  rw [hm]
  clear hm
  generalize Ent.addr g se n = b at h2 ⊢
  by_cases hs : sv = 2
  · subst hs
    by_cases ht : t = ⟨#[]⟩
    · subst ht
      go_enter Try.func77, Try.ntmps77
      go_wp2_with fail
      refine (h2 _).mono ?_
      rintro e w2 ⟨rfl, hb2⟩
      go_wp2_with fail
      go_ret
      exact ⟨rfl, (below_box _ _).trans (hb2.mono (below_box _ _).size)⟩
    · have ht' : ¬ t.size = 0 := fun e => ht (ByteArray.ext (Array.eq_empty_of_size_eq_zero e))
      rw [decide_eq_false ht']
      have hd : (t.toList == []) = false := no_bytes ht
      clear ht' ht
      go_enter Try.func77, Try.ntmps77
      go_wp2_with fail
      go_ret
      exact ⟨rfl, below_box _ _⟩
  · rw [decide_eq_false hs]
    have hc : (sv == 2) = false := by rw [beq_eq_false_iff_ne]; exact hs
    clear hs
    go_enter Try.func77, Try.ntmps77
    go_wp2_with fail
    go_ret
    exact ⟨rfl, below_box _ _⟩

theorem mayBe_other (k sv g : Int) (se n : Nat) (t : ByteArray) (h0 : ¬ k = 0) (h1 : ¬ k = 1) (h2 : ¬ k = 2) (h3 : ¬ k = 3) (w : World) :
    Calls Try.prog 77 #[.agg #[.int .i64 k, .int .i64 sv, .int .i64 g, .int .u64 (se : Int), .int .u64 (n : Int), .string t]] w fun e w' =>
      e = .returned (.bool (Ent.may k sv g se n t)) ∧ Below w.heap.size w w' := by
  have hm : Ent.may k sv g se n t = false := by
    unfold Ent.may
    rw [if_neg h0, if_neg h1, if_neg (by omega)]
  rw [hm]
  have c0 : (k == 0) = false := by rw [beq_eq_false_iff_ne]; exact h0
  have c1 : (k == 1) = false := by rw [beq_eq_false_iff_ne]; exact h1
  have c2 : (k == 2) = false := by rw [beq_eq_false_iff_ne]; exact h2
  have c3 : (k == 3) = false := by rw [beq_eq_false_iff_ne]; exact h3
  clear hm h0 h1 h2 h3
  go_enter Try.func77, Try.ntmps77
  go_wp2_with fail
  go_ret
  exact ⟨rfl, below_box _ _⟩

theorem mayBe_any (k sv g : Int) (se n : Nat) (t : ByteArray) (w : World) :
    Calls Try.prog 77 #[.agg #[.int .i64 k, .int .i64 sv, .int .i64 g, .int .u64 (se : Int), .int .u64 (n : Int), .string t]] w fun e w' =>
      e = .returned (.bool (Ent.may k sv g se n t)) ∧ Below w.heap.size w w' := by
  by_cases h0 : k = 0
  · subst h0; exact mayBe_0 sv g se n t w
  by_cases h1 : k = 1
  · subst h1; exact mayBe_1 sv g se n t w
  by_cases h2 : k = 2
  · subst h2; exact mayBe_2 sv g se n t w
  by_cases h3 : k = 3
  · subst h3; exact mayBe_3 sv g se n t w
  exact mayBe_other k sv g se n t h0 h1 h2 h3 w

end Go.Proofs.Ytmbddjejbmjmfaa
