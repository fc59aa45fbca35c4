/-
  What PutText and TakeText return. Of the memory that was there nothing turns.
  Condition: a text has at most 2^47 bytes.
-/
import Derived.Test.YtmbddjejbmjmfaaPackWc
namespace Go.Proofs.Ytmbddjejbmjmfaa
set_option maxRecDepth 10000
open Go.RowKit

theorem ret_text {s t : ByteArray} {b : Bool} (h : s = t) : Ending.returned (.tuple #[.string s, .bool b]) = .returned (.tuple #[.string t, .bool b]) := by rw [h]

theorem putText_bad (s : ByteArray) (k : Int) (h : ¬ (0 ≤ k ∧ k ≤ 255)) (w : World) :
    Calls Try.prog 80 #[.string s, .int .i64 k] w fun e w' => e = .returned (.tuple #[.string ⟨#[]⟩, .bool false]) ∧ w' = w := by
  have hi := isTextWidth_any k w
  have hd : (decide (0 ≤ k) && decide (k ≤ 255)) = false := by simp; omega
  rw [hd] at hi
  clear hd
  go_enter Try.func80, Try.ntmps80
  go_wp2_with fail
  refine hi.mono ?_
  rintro e w1 ⟨rfl, rfl⟩
  go_wp2_with fail
  go_ret2
  exact ⟨rfl, rfl⟩

theorem putText_long (s : ByteArray) (k : Nat) (h255 : k ≤ 255) (hk : k < s.size) (w : World) :
    Calls Try.prog 80 #[.string s, .int .i64 (k : Int)] w fun e w' => e = .returned (.tuple #[.string ⟨#[]⟩, .bool false]) ∧ w' = w := by
  have hi := isTextWidth_any (k : Int) w
  rw [decide_eq_true (by omega), decide_eq_true (by omega)] at hi
  go_enter Try.func80, Try.ntmps80
  go_wp2_with fail
  refine hi.mono ?_
  rintro e w1 ⟨rfl, rfl⟩
  go_wp2_with fail
  go_ret2
  exact ⟨rfl, rfl⟩

set_option maxHeartbeats 1000000 in
theorem putText_ok (s : ByteArray) (k : Nat) (h255 : k ≤ 255) (hk : s.size ≤ k) (w : World) :
    Calls Try.prog 80 #[.string s, .int .i64 (k : Int)] w fun e w' => e = .returned (.tuple #[.string (Pack.textB s k), .bool true]) ∧ Below w.heap.size w w' := by
  have hi := isTextWidth_any (k : Int) w
  rw [decide_eq_true (by omega), decide_eq_true (by omega)] at hi
  have hlen : ¬ k < s.size := by omega
  go_enter Try.func80, Try.ntmps80
  go_wp2_with fail
  refine hi.mono ?_
  rintro e w1 ⟨rfl, rfl⟩
  obtain ⟨Z, hZ, kz⟩ : ∃ Z : Array Value, (∀ j, j < 256 → Z[j]? = some (.int .u8 0)) ∧ ∀ w, (zeroValue 122).run Try.prog w = .ok (.agg Z) w :=
    ⟨Array.replicate 256 (.int .u8 0), fun j hj => by simp [hj], fun w => by kernel_rfl⟩
  have hH := held_new w1 256 122 Z hZ
  have kc := (hH.2 0 (by omega)).1
  have kf := (hH.2 0 (by omega)).2
  have H0 : Hid ((s.size : Int) = ((UInt8.ofNat s.size).toNat : Int)) := by
    unfold Hid; rw [UInt8.toNat_ofNat']; omega
  have hZ' : Hid (∀ j, j < 256 → Z[j]? = some (.int .u8 0)) := hZ
  clear hZ
  go_wp2_with fail
  go_loopw [23] (fun i w' => ∃ m : Nat, ∃ f : Nat → UInt8, m ≤ s.size ∧ i = .int .i64 m ∧ Held w1.heap.size 256 f w' ∧ Below w1.heap.size w1 w' ∧ Hid (∀ j, f j = if j ≤ m then Pack.textF s j else 0)) (fun i _ => (s.size - intOf i).toNat)
  case atStart =>
    refine ⟨0, fun j => if j = 0 then UInt8.ofNat s.size else 0, by omega, rfl, held_row _ _ _ _ _ fun j hj => ?_, (Below.refl _ _).alloc (Nat.le_refl _) _, ?_⟩
    · rw [H0.out, Array.getElem?_setIfInBounds]
      by_cases h : j = 0
      · subst h
        have h0 := hZ'.out 0 (by omega)
        have hz := (Array.getElem?_eq_some_iff.1 h0).1
        simp [hz]
      · rw [if_neg (fun e => h e.symm), if_neg h, hZ'.out j hj]; rfl
    · intro j
      show (if j = 0 then UInt8.ofNat s.size else 0) = _
      by_cases hj : j = 0
      · subst hj; rfl
      · rw [if_neg hj, if_neg (by omega)]
  case round =>
    obtain ⟨m, f, hm, rfl, hH, hb, hf⟩ := hrel
    by_cases hlt : m < s.size
    · have kc := (hH.2 (1 + m) (by omega)).1
      have kf := (hH.2 (1 + m) (by omega)).2
      go_wp2_with fail
      refine ⟨⟨m + 1, _, by omega, by go_num, hH.set (by omega) s[m], hb.setCell (Nat.le_refl _) _, ?_⟩, by simp [intOf]; omega⟩
      intro j
      show (if j = 1 + m then s[m] else f j) = _
      by_cases hj : j = 1 + m
      · subst hj
        rw [if_pos rfl, if_pos (by omega)]
        unfold Pack.textF
        rw [if_neg (by omega), show 1 + m - 1 = m by omega, Pack.at0_eq s m hlt]
      · rw [if_neg hj, hf.out j]
        by_cases h2 : j ≤ m
        · rw [if_pos h2, if_pos (by omega)]
        · rw [if_neg h2, if_neg (by omega)]
    · have ks := slice256 wr w1.heap.size (1 + k) (by omega)
      have kc := (hH.less (show 1 + k ≤ 256 by omega)).conv (P := Try.prog) (cap := 256) 66 5 9 Try.underlying66 Try.underlying5 Try.underlying9
      rw [show (((1 + k : Nat)) : Int) = 1 + (k : Int) by omega] at ks
      go_wp2_with fail
      go_ret2
      refine ⟨ret_text (textOf_congr fun j hj => ?_), hb⟩
      rw [hf.out j]
      by_cases h2 : j ≤ m
      · rw [if_pos h2]
      · rw [if_neg h2]
        unfold Pack.textF
        rw [if_neg (by omega), Pack.at0_past s _ (by omega)]

end Go.Proofs.Ytmbddjejbmjmfaa
