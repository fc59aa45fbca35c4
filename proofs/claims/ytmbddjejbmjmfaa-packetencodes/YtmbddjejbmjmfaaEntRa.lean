/-
  What the document's answers May, Check, Bytes and Encode return: the same as the code's. Of the memory that was there nothing turns.
  Condition: Bytes is asked for entries whose fields fit.
-/
import Derived.Test.YtmbddjejbmjmfaaEntWb
import Derived.Test.YtmbddjejbmjmfaaPackRb
namespace Go.Proofs.Ytmbddjejbmjmfaa
set_option maxRecDepth 10000
open Go.RowKit Go.Sort

theorem empty_size (t : ByteArray) : (t.toList = []) = (t.size = 0) := by
  apply propext
  rw [ByteArray.toList_eq]
  constructor
  · intro e
    have : t.data.toList.length = 0 := by rw [e]; rfl
    rwa [Array.length_toList] at this
  · intro e
    exact List.eq_nil_of_length_eq_zero (by rw [Array.length_toList]; exact e)

set_option maxHeartbeats 1000000 in
theorem rmay_0 (sv g : Int) (se n : Nat) (t : ByteArray) (w : World) :
    Calls Try.prog 48 #[.agg #[.int .i64 0, .int .i64 sv, .int .i64 g, .int .u64 (se : Int), .int .u64 (n : Int), .string t]] w fun e w' =>
      e = .returned (.bool (Ent.may 0 sv g se n t)) ∧ Below w.heap.size w w' := by
  go_enter Try.func48, Try.ntmps48
  go_wp2_with fail
  all_goals go_ret
  all_goals refine ⟨ret_bool ?_, below_box _ _⟩
  all_goals rw [Bool.eq_iff_iff]
  all_goals try simp only [List.isEmpty_iff, empty_size]
  all_goals unfold Ent.may Ent.addr
  all_goals (first | (simp_all; done) | (simp_all; omega) | (have h0 : ¬ t.size = 0 := (by omega); simp [h0]))

set_option maxHeartbeats 1000000 in
theorem rmay_1 (sv g : Int) (se n : Nat) (t : ByteArray) (w : World) :
    Calls Try.prog 48 #[.agg #[.int .i64 1, .int .i64 sv, .int .i64 g, .int .u64 (se : Int), .int .u64 (n : Int), .string t]] w fun e w' =>
      e = .returned (.bool (Ent.may 1 sv g se n t)) ∧ Below w.heap.size w w' := by
  go_enter Try.func48, Try.ntmps48
  go_wp2_with fail
  all_goals go_ret
  all_goals refine ⟨ret_bool ?_, below_box _ _⟩
  all_goals rw [Bool.eq_iff_iff]
  all_goals try simp only [decide_eq_true_iff]
  all_goals unfold Ent.may Ent.addr
  all_goals (first | (simp_all; done) | (simp_all; omega) | (have h0 : ¬ t.size = 0 := (by omega); simp [h0]))

set_option maxHeartbeats 1000000 in
theorem rmay_2 (sv g : Int) (se n : Nat) (t : ByteArray) (w : World) :
    Calls Try.prog 48 #[.agg #[.int .i64 2, .int .i64 sv, .int .i64 g, .int .u64 (se : Int), .int .u64 (n : Int), .string t]] w fun e w' =>
      e = .returned (.bool (Ent.may 2 sv g se n t)) ∧ Below w.heap.size w w' := by
  go_enter Try.func48, Try.ntmps48
  go_wp2_with fail
  all_goals go_ret
  all_goals refine ⟨ret_bool ?_, below_box _ _⟩
  all_goals rw [Bool.eq_iff_iff]
  all_goals try simp only [List.isEmpty_iff, empty_size]
  all_goals unfold Ent.may Ent.addr
  all_goals (first | (simp_all; done) | (simp_all; omega) | (have h0 : ¬ t.size = 0 := (by omega); simp [h0]))

set_option maxHeartbeats 1000000 in
theorem rmay_3 (sv g : Int) (se n : Nat) (t : ByteArray) (w : World) :
    Calls Try.prog 48 #[.agg #[.int .i64 3, .int .i64 sv, .int .i64 g, .int .u64 (se : Int), .int .u64 (n : Int), .string t]] w fun e w' =>
      e = .returned (.bool (Ent.may 3 sv g se n t)) ∧ Below w.heap.size w w' := by
  go_enter Try.func48, Try.ntmps48
  go_wp2_with fail
  all_goals go_ret
  all_goals refine ⟨ret_bool ?_, below_box _ _⟩
  all_goals rw [Bool.eq_iff_iff]
  all_goals try simp only [List.isEmpty_iff, empty_size]
  all_goals unfold Ent.may Ent.addr
  all_goals (first | (simp_all; done) | (simp_all; omega) | (have h0 : ¬ t.size = 0 := (by omega); simp [h0]))

theorem rmay_other (k sv g : Int) (se n : Nat) (t : ByteArray) (h0 : ¬ k = 0) (h1 : ¬ k = 1) (h2 : ¬ k = 2) (h3 : ¬ k = 3) (w : World) :
    Calls Try.prog 48 #[.agg #[.int .i64 k, .int .i64 sv, .int .i64 g, .int .u64 (se : Int), .int .u64 (n : Int), .string t]] w fun e w' =>
      e = .returned (.bool (Ent.may k sv g se n t)) ∧ Below w.heap.size w w' := by
  have hm : Ent.may k sv g se n t = false := by
    unfold Ent.may
    rw [if_neg h0, if_neg h1, if_neg (by omega)]
  rw [hm]
  have c0 : (k == 0) = false := by rw [beq_eq_false_iff_ne]; exact h0
  have c1 : (k == 1) = false := by rw [beq_eq_false_iff_ne]; exact h1
  have c2 : (k == 2) = false := by rw [beq_eq_false_iff_ne]; exact h2
  have c3 : (k == 3) = false := by rw [beq_eq_false_iff_ne]; exact h3
  clear hm h0 h1 h2 h3
  go_enter Try.func48, Try.ntmps48
  go_wp2_with fail
  all_goals go_ret
  all_goals exact ⟨rfl, below_box _ _⟩

theorem rmay_any (k sv g : Int) (se n : Nat) (t : ByteArray) (w : World) :
    Calls Try.prog 48 #[.agg #[.int .i64 k, .int .i64 sv, .int .i64 g, .int .u64 (se : Int), .int .u64 (n : Int), .string t]] w fun e w' =>
      e = .returned (.bool (Ent.may k sv g se n t)) ∧ Below w.heap.size w w' := by
  by_cases h0 : k = 0
  · subst h0; exact rmay_0 sv g se n t w
  by_cases h1 : k = 1
  · subst h1; exact rmay_1 sv g se n t w
  by_cases h2 : k = 2
  · subst h2; exact rmay_2 sv g se n t w
  by_cases h3 : k = 3
  · subst h3; exact rmay_3 sv g se n t w
  exact rmay_other k sv g se n t h0 h1 h2 h3 w

set_option maxHeartbeats 1000000 in
theorem rbytes_ok (k sv g se n : Nat) (t : ByteArray) (hk : k < 256) (hv : sv < 256) (hg : g < 256) (hse : se < 256 ^ 2) (hn : n < 256 ^ 4) (ht : t.size ≤ 16) (w : World) :
    Calls Try.prog 61 #[.agg #[.int .i64 (k : Int), .int .i64 (sv : Int), .int .i64 (g : Int), .int .u64 (se : Int), .int .u64 (n : Int), .string t]] w fun e w' =>
      e = .returned (.string (Ent.bytes k sv g se n t)) ∧ Below w.heap.size w w' := by
  have q1 : IntKind.u64.wrap (k : Int) = (k : Int) := by rw [IntKind.wrap_u64]; omega
  have q2 : IntKind.u64.wrap (sv : Int) = (sv : Int) := by rw [IntKind.wrap_u64]; omega
  have q3 : IntKind.u64.wrap (g : Int) = (g : Int) := by rw [IntKind.wrap_u64]; omega
  unfold Ent.bytes
  have P0 : ∀ w, Calls Try.prog 43 #[.int .u64 (k : Int), .int .i64 1] w fun e w' => e = .returned (.string (Pack.putB k 1)) ∧ Below w.heap.size w w' := fun w => rput_ok k (by omega) 1 (by decide) (by decide) w
  have z0 := Pack.putB_size k 1
  have P1 : ∀ w, Calls Try.prog 43 #[.int .u64 (sv : Int), .int .i64 1] w fun e w' => e = .returned (.string (Pack.putB sv 1)) ∧ Below w.heap.size w w' := fun w => rput_ok sv (by omega) 1 (by decide) (by decide) w
  have z1 := Pack.putB_size sv 1
  have P2 : ∀ w, Calls Try.prog 43 #[.int .u64 (g : Int), .int .i64 1] w fun e w' => e = .returned (.string (Pack.putB g 1)) ∧ Below w.heap.size w w' := fun w => rput_ok g (by omega) 1 (by decide) (by decide) w
  have z2 := Pack.putB_size g 1
  have P3 : ∀ w, Calls Try.prog 43 #[.int .u64 (se : Int), .int .i64 2] w fun e w' => e = .returned (.string (Pack.putB se 2)) ∧ Below w.heap.size w w' := fun w => rput_ok se (by omega) 2 (by decide) (by decide) w
  have z3 := Pack.putB_size se 2
  have P4 : ∀ w, Calls Try.prog 43 #[.int .u64 (n : Int), .int .i64 4] w fun e w' => e = .returned (.string (Pack.putB n 4)) ∧ Below w.heap.size w w' := fun w => rput_ok n (by omega) 4 (by decide) (by decide) w
  have z4 := Pack.putB_size n 4
  have T : ∀ w, Calls Try.prog 71 #[.string t, .int .i64 16] w fun e w' => e = .returned (.tuple #[.string (Pack.textB t 16), .bool true]) ∧ Below w.heap.size w w' := fun w => rputText_ok t 16 (by decide) ht w
  have zt := Pack.textB_size t 16
  generalize Pack.putB k 1 = b0 at P0 z0 ⊢
  generalize Pack.putB sv 1 = b1 at P1 z1 ⊢
  generalize Pack.putB g 1 = b2 at P2 z2 ⊢
  generalize Pack.putB se 2 = b3 at P3 z3 ⊢
  generalize Pack.putB n 4 = b4 at P4 z4 ⊢
  generalize Pack.textB t 16 = bt at T zt ⊢
  go_enter Try.func61, Try.ntmps61
  go_wp2_with fail
  refine (T _).mono ?_
  rintro e w1 ⟨rfl, hb1⟩
  have c0 : ∀ d os, (grow (redrawn w1 d) os).cell? ⟨w.heap.size, 0, none⟩ = some (.int .i64 (k : Int)) := cell_regrown (box_cell hb1 0 _ rfl)
  have c1 : ∀ d os, (grow (redrawn w1 d) os).cell? ⟨w.heap.size, 1, none⟩ = some (.int .i64 (sv : Int)) := cell_regrown (box_cell hb1 1 _ rfl)
  have c2 : ∀ d os, (grow (redrawn w1 d) os).cell? ⟨w.heap.size, 2, none⟩ = some (.int .i64 (g : Int)) := cell_regrown (box_cell hb1 2 _ rfl)
  have c3 : ∀ d os, (grow (redrawn w1 d) os).cell? ⟨w.heap.size, 3, none⟩ = some (.int .u64 (se : Int)) := cell_regrown (box_cell hb1 3 _ rfl)
  have c4 : ∀ d os, (grow (redrawn w1 d) os).cell? ⟨w.heap.size, 4, none⟩ = some (.int .u64 (n : Int)) := cell_regrown (box_cell hb1 4 _ rfl)
  have p0 : ∀ d os, Calls Try.prog 43 #[.int .u64 (k : Int), .int .i64 1] (grow (redrawn w1 d) os) fun e w'' => e = .returned (.string b0) ∧ ∃ p : Regrown, w'' = grow (redrawn w1 p.d) p.os := fun d os => Calls.regrown_of (P0 _)
  have p1 : ∀ d os, Calls Try.prog 43 #[.int .u64 (sv : Int), .int .i64 1] (grow (redrawn w1 d) os) fun e w'' => e = .returned (.string b1) ∧ ∃ p : Regrown, w'' = grow (redrawn w1 p.d) p.os := fun d os => Calls.regrown_of (P1 _)
  have p2 : ∀ d os, Calls Try.prog 43 #[.int .u64 (g : Int), .int .i64 1] (grow (redrawn w1 d) os) fun e w'' => e = .returned (.string b2) ∧ ∃ p : Regrown, w'' = grow (redrawn w1 p.d) p.os := fun d os => Calls.regrown_of (P2 _)
  have p3 : ∀ d os, Calls Try.prog 43 #[.int .u64 (se : Int), .int .i64 2] (grow (redrawn w1 d) os) fun e w'' => e = .returned (.string b3) ∧ ∃ p : Regrown, w'' = grow (redrawn w1 p.d) p.os := fun d os => Calls.regrown_of (P3 _)
  have p4 : ∀ d os, Calls Try.prog 43 #[.int .u64 (n : Int), .int .i64 4] (grow (redrawn w1 d) os) fun e w'' => e = .returned (.string b4) ∧ ∃ p : Regrown, w'' = grow (redrawn w1 p.d) p.os := fun d os => Calls.regrown_of (P4 _)
  clear P0 P1 P2 P3 P4 T
  go_wp2_with fail
  refine wp_region_quiet_below (by kernel_rfl) (by kernel_rfl) ?_
  clear hk hv hg hse hn
  repeat (go_big_quiet_step (first | with_reducible exact p0 _ _ | with_reducible exact p1 _ _ | with_reducible exact p2 _ _ | with_reducible exact p3 _ _ | with_reducible exact p4 _ _))
  refine wpQuiet_nil ?_
  intro _ hw'
  obtain ⟨⟨dq, osq⟩, hw''⟩ := hw'
  subst hw''
  go_wp2_with fail
  go_ret
  have hb2 := below_regrown w1 dq osq
  have s0 := (below_box w (.cells #[.int .i64 (k : Int), .int .i64 (sv : Int), .int .i64 (g : Int), .int .u64 (se : Int), .int .u64 (n : Int), .string t] 30))
  exact ⟨rfl, s0.trans ((hb1.mono s0.size).trans (hb2.mono (Nat.le_trans s0.size hb1.size)))⟩

end Go.Proofs.Ytmbddjejbmjmfaa
