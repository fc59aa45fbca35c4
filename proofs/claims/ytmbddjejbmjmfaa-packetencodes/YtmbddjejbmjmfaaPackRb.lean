/-
  What the document's answers PutText and TakeText return: the same as the code's. Of the memory that was there nothing turns.
  Condition: a text has at most 2^47 bytes.
-/
import Derived.Test.YtmbddjejbmjmfaaPackRa
namespace Go.Proofs.Ytmbddjejbmjmfaa
set_option maxRecDepth 10000
open Go.RowKit

theorem rputText_bad (s : ByteArray) (k : Int) (h : ¬ (0 ≤ k ∧ k ≤ 255)) (w : World) :
    Calls Try.prog 71 #[.string s, .int .i64 k] w fun e w' => e = .returned (.tuple #[.string ⟨#[]⟩, .bool false]) ∧ w' = w := by
  by_cases h1 : k < 0
  · go_enter Try.func71, Try.ntmps71
    go_wp2_with fail
    go_ret2
    exact ⟨rfl, rfl⟩
  · have h2 : 255 < k := by omega
    go_enter Try.func71, Try.ntmps71
    go_wp2_with fail
    go_ret2
    exact ⟨rfl, rfl⟩

theorem rputText_long (s : ByteArray) (k : Nat) (h255 : k ≤ 255) (hk : k < s.size) (w : World) :
    Calls Try.prog 71 #[.string s, .int .i64 (k : Int)] w fun e w' => e = .returned (.tuple #[.string ⟨#[]⟩, .bool false]) ∧ w' = w := by
  have c1 : ¬ (k : Int) < 0 := by omega
  have c2 : ¬ 255 < (k : Int) := by omega
  go_enter Try.func71, Try.ntmps71
  go_wp2_with fail
  go_ret2
  exact ⟨rfl, rfl⟩

set_option maxHeartbeats 1000000 in
theorem rputText_ok (s : ByteArray) (k : Nat) (h255 : k ≤ 255) (hk : s.size ≤ k) (w : World) :
    Calls Try.prog 71 #[.string s, .int .i64 (k : Int)] w fun e w' => e = .returned (.tuple #[.string (Pack.textB s k), .bool true]) ∧ Below w.heap.size w w' := by
  have c1 : ¬ (k : Int) < 0 := by omega
  have c2 : ¬ 255 < (k : Int) := by omega
  have hlen : ¬ k < s.size := by omega
  obtain ⟨M, hM, kmake⟩ := make_any (k + 1) (by omega)
  rw [show (((k + 1 : Nat)) : Int) = (k : Int) + 1 by omega] at kmake
  have hM' : Hid (∀ j, j < k + 1 → M[j]? = some (.int .u8 0)) := hM
  have hH := held_new w (k + 1) 5 M hM
  have kc := (hH.2 0 (by omega)).1
  have kf := (hH.2 0 (by omega)).2
  clear hM
  have H0 : Hid ((s.size : Int) = ((UInt8.ofNat s.size).toNat : Int)) := by
    unfold Hid; rw [UInt8.toNat_ofNat']; omega
  go_enter Try.func71, Try.ntmps71
  go_wp2_with fail
  go_loopw [7] (fun i w' => ∃ m : Nat, ∃ f : Nat → UInt8, m ≤ s.size ∧ i = .int .i64 m ∧ Held w.heap.size (k + 1) f w' ∧ Below w.heap.size w w' ∧ Hid (∀ j, f j = if j ≤ m then Pack.textF s j else 0)) (fun i _ => (s.size - intOf i).toNat)
  case atStart =>
    refine ⟨0, fun j => if j = 0 then UInt8.ofNat s.size else 0, by omega, rfl, held_row _ _ _ _ _ fun j hj => ?_, (Below.refl _ _).alloc (Nat.le_refl _) _, ?_⟩
    · rw [H0.out, Array.getElem?_setIfInBounds]
      by_cases h : j = 0
      · subst h
        have h0 := hM'.out 0 (by omega)
        have hz := (Array.getElem?_eq_some_iff.1 h0).1
        simp [hz]
      · rw [if_neg (fun e => h e.symm), if_neg h, hM'.out j hj]; rfl
    · intro j
      show (if j = 0 then UInt8.ofNat s.size else 0) = _
      by_cases hj : j = 0
      · subst hj; rfl
      · rw [if_neg hj, if_neg (by omega)]
  case round =>
    obtain ⟨m, f, hm, rfl, hH, hb, hf⟩ := hrel
    by_cases hlt : m < s.size
    · have kc := (hH.2 (m + 1) (by omega)).1
      have kf := (hH.2 (m + 1) (by omega)).2
      go_wp2_with fail
      refine ⟨⟨m + 1, _, by omega, by go_num, hH.set (by omega) s[m], hb.setCell (Nat.le_refl _) _, ?_⟩, by simp [intOf]; omega⟩
      intro j
      show (if j = m + 1 then s[m] else f j) = _
      by_cases hj : j = m + 1
      · subst hj
        rw [if_pos rfl, if_pos (by omega)]
        unfold Pack.textF
        rw [if_neg (by omega), show m + 1 - 1 = m by omega, Pack.at0_eq s m hlt]
      · rw [if_neg hj, hf.out j]
        by_cases h2 : j ≤ m
        · rw [if_pos h2, if_pos (by omega)]
        · rw [if_neg h2, if_neg (by omega)]
    · have kc := hH.conv (P := Try.prog) (cap := k + 1) 66 5 9 Try.underlying66 Try.underlying5 Try.underlying9
      go_wp2_with fail
      go_ret2
      refine ⟨ret_text ?_, hb⟩
      rw [Nat.add_comm k 1]
      refine textOf_congr fun j hj => ?_
      rw [hf.out j]
      by_cases h2 : j ≤ m
      · rw [if_pos h2]
      · rw [if_neg h2]
        unfold Pack.textF
        rw [if_neg (by omega), Pack.at0_past s _ (by omega)]

theorem rtakeText_bad (s : ByteArray) (k : Int) (h : ¬ (0 ≤ k ∧ k ≤ 255)) (w : World) :
    Calls Try.prog 66 #[.string s, .int .i64 k] w fun e w' => e = .returned (.tuple #[.string ⟨#[]⟩, .string ⟨#[]⟩, .bool false]) ∧ w' = w := by
  by_cases h1 : k < 0
  · go_enter Try.func66, Try.ntmps66
    go_wp2_with fail
    go_ret3
    exact ⟨rfl, rfl⟩
  · have h2 : 255 < k := by omega
    go_enter Try.func66, Try.ntmps66
    go_wp2_with fail
    go_ret3
    exact ⟨rfl, rfl⟩

theorem rtakeText_short (s : ByteArray) (k : Nat) (h255 : k ≤ 255) (hk : s.size < 1 + k) (w : World) :
    Calls Try.prog 66 #[.string s, .int .i64 (k : Int)] w fun e w' => e = .returned (.tuple #[.string ⟨#[]⟩, .string ⟨#[]⟩, .bool false]) ∧ w' = w := by
  have c1 : ¬ (k : Int) < 0 := by omega
  have c2 : ¬ 255 < (k : Int) := by omega
  have hlen : decide ((s.size : Int) < (k : Int) + 1) = true := decide_eq_true (by omega)
  go_enter Try.func66, Try.ntmps66
  go_wp2_with fail
  go_ret3
  exact ⟨rfl, rfl⟩

theorem rtakeText_head (s : ByteArray) (k : Nat) (h255 : k ≤ 255) (hk : 1 + k ≤ s.size) (h : Nat) (hh0 : (s[0]'(by omega)).toNat = h) (hh : k < h) (h256 : h < 256) (w : World) :
    Calls Try.prog 66 #[.string s, .int .i64 (k : Int)] w fun e w' => e = .returned (.tuple #[.string ⟨#[]⟩, .string ⟨#[]⟩, .bool false]) ∧ w' = w := by
  have c1 : ¬ (k : Int) < 0 := by omega
  have c2 : ¬ 255 < (k : Int) := by omega
  have hlen : decide ((s.size : Int) < (k : Int) + 1) = false := decide_eq_false (by omega)
  have h0 : 0 < s.size := by omega
  go_enter Try.func66, Try.ntmps66
  go_wp2_with fail
  go_ret3
  exact ⟨rfl, rfl⟩

set_option maxHeartbeats 1000000 in
theorem rtakeText_other (s : ByteArray) (hs : s.size ≤ 140737488355328) (k : Nat) (h255 : k ≤ 255) (hk : 1 + k ≤ s.size) (h : Nat) (hh0 : (s[0]'(by omega)).toNat = h) (hh : h ≤ k)
    (hne : ¬ s.extract 0 (1 + k) = Pack.textB (s.extract 1 (1 + h)) k) (w : World) :
    Calls Try.prog 66 #[.string s, .int .i64 (k : Int)] w fun e w' => e = .returned (.tuple #[.string ⟨#[]⟩, .string ⟨#[]⟩, .bool false]) ∧ Below w.heap.size w w' := by
  have c1 : ¬ (k : Int) < 0 := by omega
  have c2 : ¬ 255 < (k : Int) := by omega
  have hlen : decide ((s.size : Int) < (k : Int) + 1) = false := decide_eq_false (by omega)
  have h0 : 0 < s.size := by omega
  have q4 : (1 : Int) ≤ 1 + (h : Int) := by omega
  have q5 : 1 + (h : Int) ≤ (s.size : Int) := by omega
  have q6 : (k : Int) + 1 ≤ (s.size : Int) := by omega
  have hc : ((Pack.textB (s.extract 1 (1 + h)) k).toList == (s.extract 0 (k + 1)).toList) = false := bytes_ne (fun e => hne (by rw [Nat.add_comm 1 k]; exact e.symm))
  go_enter Try.func66, Try.ntmps66
  go_wp2_with fail
  refine (rputText_ok (s.extract 1 (1 + h)) k h255 (by simp; omega) _).mono ?_
  rintro e w3 ⟨rfl, hb3⟩
  go_wp2_with fail
  go_ret3
  exact ⟨rfl, hb3⟩

set_option maxHeartbeats 1000000 in
theorem rtakeText_ok (s : ByteArray) (hs : s.size ≤ 140737488355328) (k : Nat) (h255 : k ≤ 255) (hk : 1 + k ≤ s.size) (h : Nat) (hh0 : (s[0]'(by omega)).toNat = h) (hh : h ≤ k)
    (heq : s.extract 0 (1 + k) = Pack.textB (s.extract 1 (1 + h)) k) (w : World) :
    Calls Try.prog 66 #[.string s, .int .i64 (k : Int)] w fun e w' => e = .returned (.tuple #[.string (s.extract 1 (1 + h)), .string (s.extract (1 + k) s.size), .bool true]) ∧ Below w.heap.size w w' := by
  have c1 : ¬ (k : Int) < 0 := by omega
  have c2 : ¬ 255 < (k : Int) := by omega
  have hlen : decide ((s.size : Int) < (k : Int) + 1) = false := decide_eq_false (by omega)
  have h0 : 0 < s.size := by omega
  have q3 : IntKind.i64.wrap ((k : Int) + 1) = (k : Int) + 1 := by rw [IntKind.wrap_i64]; omega
  have q4 : (1 : Int) ≤ 1 + (h : Int) := by omega
  have q5 : 1 + (h : Int) ≤ (s.size : Int) := by omega
  have q6 : (k : Int) + 1 ≤ (s.size : Int) := by omega
  have hc : ((Pack.textB (s.extract 1 (1 + h)) k).toList == (s.extract 0 (k + 1)).toList) = true := bytes_eq (by rw [Nat.add_comm k 1]; exact heq.symm)
  go_enter Try.func66, Try.ntmps66
  go_wp2_with fail
  refine (rputText_ok (s.extract 1 (1 + h)) k h255 (by simp; omega) _).mono ?_
  rintro e w3 ⟨rfl, hb3⟩
  go_wp2_with fail
  go_quiet (fail)
  go_wp2_with fail
  go_ret3
  refine ⟨?_, hb3.trans (below_draws _ _ _)⟩
  rw [Nat.add_comm 1 k]; rfl

end Go.Proofs.Ytmbddjejbmjmfaa
