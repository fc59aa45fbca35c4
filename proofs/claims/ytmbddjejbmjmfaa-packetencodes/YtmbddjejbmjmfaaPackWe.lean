/-
  What TakeText returns. Of the memory that was there nothing turns.
  Condition: a text has at most 2^47 bytes.
-/
import Derived.Test.YtmbddjejbmjmfaaPackWd
import Derived.Deep.QuietTactic
import Derived.BigQuiet
namespace Go.Proofs.Ytmbddjejbmjmfaa
set_option maxRecDepth 10000
open Go.RowKit

theorem takeText_bad (s : ByteArray) (k : Int) (h : ¬ (0 ≤ k ∧ k ≤ 255)) (w : World) :
    Calls Try.prog 84 #[.string s, .int .i64 k] w fun e w' => e = .returned (.tuple #[.string ⟨#[]⟩, .string ⟨#[]⟩, .bool false]) ∧ w' = w := by
  have hi := isTextWidth_any k w
  have hd : (decide (0 ≤ k) && decide (k ≤ 255)) = false := by simp; omega
  rw [hd] at hi
  clear hd
  go_enter Try.func84, Try.ntmps84
  go_wp2_with fail
  refine hi.mono ?_
  rintro e w1 ⟨rfl, rfl⟩
  go_wp2_with fail
  go_ret3
  exact ⟨rfl, rfl⟩

theorem takeText_short (s : ByteArray) (k : Nat) (h255 : k ≤ 255) (hk : s.size < 1 + k) (w : World) :
    Calls Try.prog 84 #[.string s, .int .i64 (k : Int)] w fun e w' => e = .returned (.tuple #[.string ⟨#[]⟩, .string ⟨#[]⟩, .bool false]) ∧ w' = w := by
  have hi := isTextWidth_any (k : Int) w
  rw [decide_eq_true (by omega), decide_eq_true (by omega)] at hi
  go_enter Try.func84, Try.ntmps84
  go_wp2_with fail
  refine hi.mono ?_
  rintro e w1 ⟨rfl, rfl⟩
  go_wp2_with fail
  go_ret3
  exact ⟨rfl, rfl⟩

theorem takeText_head (s : ByteArray) (k : Nat) (h255 : k ≤ 255) (hk : 1 + k ≤ s.size) (h : Nat) (hh0 : (s[0]'(by omega)).toNat = h) (hh : k < h) (h256 : h < 256) (w : World) :
    Calls Try.prog 84 #[.string s, .int .i64 (k : Int)] w fun e w' => e = .returned (.tuple #[.string ⟨#[]⟩, .string ⟨#[]⟩, .bool false]) ∧ w' = w := by
  have hi := isTextWidth_any (k : Int) w
  rw [decide_eq_true (by omega), decide_eq_true (by omega)] at hi
  have hlen : decide ((s.size : Int) < 1 + (k : Int)) = false := decide_eq_false (by omega)
  have h0 : 0 < s.size := by omega
  go_enter Try.func84, Try.ntmps84
  go_wp2_with fail
  refine hi.mono ?_
  rintro e w1 ⟨rfl, rfl⟩
  go_wp2_with fail
  go_ret3
  exact ⟨rfl, rfl⟩

theorem below_draws (B : Nat) (w : World) (n : Nat) : Below B w (w.drewN n) := ⟨rfl, rfl, rfl, Nat.le_refl _, fun _ _ => rfl⟩
theorem bytes_eq {a b : ByteArray} (h : a = b) : (a.toList == b.toList) = true := by rw [h]; exact beq_self_eq_true _
theorem bytes_ne {a b : ByteArray} (h : ¬ a = b) : (a.toList == b.toList) = false := by
  rw [beq_eq_false_iff_ne]
  intro e
  rw [ByteArray.toList_eq, ByteArray.toList_eq] at e
  exact h (ByteArray.ext (Array.ext' e))

set_option maxHeartbeats 1000000 in
theorem takeText_other (s : ByteArray) (hs : s.size ≤ 140737488355328) (k : Nat) (h255 : k ≤ 255) (hk : 1 + k ≤ s.size) (h : Nat) (hh0 : (s[0]'(by omega)).toNat = h) (hh : h ≤ k)
    (hne : ¬ s.extract 0 (1 + k) = Pack.textB (s.extract 1 (1 + h)) k) (w : World) :
    Calls Try.prog 84 #[.string s, .int .i64 (k : Int)] w fun e w' => e = .returned (.tuple #[.string ⟨#[]⟩, .string ⟨#[]⟩, .bool false]) ∧ Below w.heap.size w w' := by
  have hi := isTextWidth_any (k : Int) w
  rw [decide_eq_true (by omega), decide_eq_true (by omega)] at hi
  have hlen : decide ((s.size : Int) < 1 + (k : Int)) = false := decide_eq_false (by omega)
  have h0 : 0 < s.size := by omega
  have q1 : IntKind.i64.wrap (h : Int) = h := by rw [IntKind.wrap_i64]; omega
  have q2 : IntKind.i64.wrap (1 + (h : Int)) = 1 + h := by rw [IntKind.wrap_i64]; omega
  have q3 : IntKind.i64.wrap (1 + (k : Int)) = 1 + k := by rw [IntKind.wrap_i64]; omega
  have q4 : (1 : Int) ≤ 1 + (h : Int) := by omega
  have q5 : 1 + (h : Int) ≤ (s.size : Int) := by omega
  have q6 : 1 + (k : Int) ≤ (s.size : Int) := by omega
  have hc : ((s.extract 0 (1 + k)).toList == (Pack.textB (s.extract 1 (1 + h)) k).toList) = false := (bytes_ne hne)
  go_enter Try.func84, Try.ntmps84
  go_wp2_with fail
  refine hi.mono ?_
  rintro e w1 ⟨rfl, rfl⟩
  go_wp2_with fail
  go_quiet (fail)
  have hd : Below w1.heap.size w1 (w1.drewN nq) := below_draws _ _ _
  generalize w1.drewN nq = w2 at hd ⊢
  go_wp2_with fail
  refine (putText_ok (s.extract 1 (1 + h)) k h255 (by simp; omega) _).mono ?_
  rintro e w3 ⟨rfl, hb3⟩
  go_wp2_with fail
  go_ret3
  exact ⟨rfl, hd.trans (hb3.mono hd.size)⟩

set_option maxHeartbeats 1000000 in
theorem takeText_ok (s : ByteArray) (hs : s.size ≤ 140737488355328) (k : Nat) (h255 : k ≤ 255) (hk : 1 + k ≤ s.size) (h : Nat) (hh0 : (s[0]'(by omega)).toNat = h) (hh : h ≤ k)
    (heq : s.extract 0 (1 + k) = Pack.textB (s.extract 1 (1 + h)) k) (w : World) :
    Calls Try.prog 84 #[.string s, .int .i64 (k : Int)] w fun e w' => e = .returned (.tuple #[.string (s.extract 1 (1 + h)), .string (s.extract (1 + k) s.size), .bool true]) ∧ Below w.heap.size w w' := by
  have hi := isTextWidth_any (k : Int) w
  rw [decide_eq_true (by omega), decide_eq_true (by omega)] at hi
  have hlen : decide ((s.size : Int) < 1 + (k : Int)) = false := decide_eq_false (by omega)
  have h0 : 0 < s.size := by omega
  have q1 : IntKind.i64.wrap (h : Int) = h := by rw [IntKind.wrap_i64]; omega
  have q2 : IntKind.i64.wrap (1 + (h : Int)) = 1 + h := by rw [IntKind.wrap_i64]; omega
  have q3 : IntKind.i64.wrap (1 + (k : Int)) = 1 + k := by rw [IntKind.wrap_i64]; omega
  have q4 : (1 : Int) ≤ 1 + (h : Int) := by omega
  have q5 : 1 + (h : Int) ≤ (s.size : Int) := by omega
  have q6 : 1 + (k : Int) ≤ (s.size : Int) := by omega
  have hc : ((s.extract 0 (1 + k)).toList == (Pack.textB (s.extract 1 (1 + h)) k).toList) = true := (bytes_eq heq)
  go_enter Try.func84, Try.ntmps84
  go_wp2_with fail
  refine hi.mono ?_
  rintro e w1 ⟨rfl, rfl⟩
  go_wp2_with fail
  go_quiet (fail)
  have hd : Below w1.heap.size w1 (w1.drewN nq) := below_draws _ _ _
  generalize w1.drewN nq = w2 at hd ⊢
  go_wp2_with fail
  refine (putText_ok (s.extract 1 (1 + h)) k h255 (by simp; omega) _).mono ?_
  rintro e w3 ⟨rfl, hb3⟩
  go_wp2_with fail
  refine (own_any _ _ (by simp; omega)).mono ?_
  rintro e w4 ⟨rfl, hb4⟩
  go_wp2_with fail
  refine (own_any _ _ (by simp; omega)).mono ?_
  rintro e w5 ⟨rfl, hb5⟩
  go_wp2_with fail
  go_ret3
  have s3 := Nat.le_trans hd.size hb3.size
  exact ⟨rfl, hd.trans ((hb3.mono hd.size).trans ((hb4.mono s3).trans (hb5.mono (Nat.le_trans s3 hb4.size))))⟩

end Go.Proofs.Ytmbddjejbmjmfaa
