/-
  What the document's answers Put and Take return: the same as the code's. Of the memory that was there nothing turns.
  Condition: a text has at most 2^47 bytes.
-/
import Derived.Test.YtmbddjejbmjmfaaPackWe
namespace Go.Proofs.Ytmbddjejbmjmfaa
set_option maxRecDepth 10000
open Go.RowKit

theorem make_any (n : Nat) (h : n ≤ 281474976710656) : ∃ M : Array Value, (∀ j, j < n → M[j]? = some (.int .u8 0)) ∧ ∀ W : World, (Instr.makeSlice 66 (.int .i64 (n : Int)) (.int .i64 (n : Int))).run Try.prog W = .ok (.slice (some ⟨W.heap.size, 0, none⟩) n n) (W.alloc (.cells M 5)) := by
  obtain ⟨i5, hi, hz, hone, hby⟩ := info_parts info5
  refine ⟨madeCells (Value.int .u8 0).cells (((n : Nat) : Int).toNat * i5.size), fun j hj => ?_, fun W => ?_⟩
  · have hsz : j < (madeCells (Value.int .u8 0).cells (((n : Nat) : Int).toNat * i5.size)).size := by rw [size_madeCells, hone]; simpa using hj
    rw [Array.getElem?_eq_getElem hsz]
    have hm : j % 1 = 0 := Nat.mod_one j
    simp [madeCells, Value.cells, hm]
  · have h := run_make (P := Try.prog) W 66 5 i5 (.int .u8 0) Try.underlying66 hi hz .i64 .i64 (n : Int) (n : Int) (by omega) (by omega) (by rw [hby]; omega) (by omega)
    simpa using h

theorem rput_bad (n : Nat) (k : Int) (h : ¬ (1 ≤ k ∧ k ≤ 8)) (w : World) :
    Calls Try.prog 43 #[.int .u64 (n : Int), .int .i64 k] w fun e w' => e = .returned (.string ⟨#[]⟩) ∧ w' = w := by
  by_cases h1 : k < 1
  · go_enter Try.func43, Try.ntmps43
    go_wp2_with fail
    go_ret
    exact ⟨rfl, rfl⟩
  · have h2 : 8 < k := by omega
    go_enter Try.func43, Try.ntmps43
    go_wp2_with fail
    go_ret
    exact ⟨rfl, rfl⟩

set_option maxHeartbeats 1000000 in
theorem rput_ok (n : Nat) (hn : n < 18446744073709551616) (k : Nat) (h1 : 1 ≤ k) (h8 : k ≤ 8) (w : World) :
    Calls Try.prog 43 #[.int .u64 (n : Int), .int .i64 (k : Int)] w fun e w' => e = .returned (.string (Pack.putB n k)) ∧ Below w.heap.size w w' := by
  obtain ⟨M, hM, kmake⟩ := make_any k (by omega)
  have hM' : Hid (∀ j, j < k → M[j]? = some (.int .u8 0)) := hM
  clear hM
  have c1 : ¬ (k : Int) < 1 := by omega
  have c2 : ¬ 8 < (k : Int) := by omega
  go_enter Try.func43, Try.ntmps43
  go_wp2_with fail
  go_loopw [0, 6] (fun x i w' => ∃ m : Nat, ∃ f : Nat → UInt8, m ≤ k ∧ i = .int .i64 ((k : Int) - 1 - m) ∧ (∃ z : Nat, x = .int .u64 (z : Int) ∧ z < 18446744073709551616 ∧ Hid (z = n / 256 ^ m)) ∧ Held w.heap.size k f w' ∧ Below w.heap.size w w' ∧ Hid (∀ j, k - m ≤ j → j < k → f j = Pack.putF n k j)) (fun _ i _ => (1 + intOf i).toNat)
  case atStart =>
    exact ⟨0, fun _ => 0, by omega, by go_num, ⟨n, rfl, hn, by unfold Hid; simp⟩, held_new _ _ _ _ hM'.out, (Below.refl _ _).alloc (Nat.le_refl _) _, fun j _ _ => by omega⟩
  case round =>
    obtain ⟨m, f, hm, rfl, ⟨z, rfl, hzl, hz⟩, hH, hb, hf⟩ := hrel
    by_cases hlt : m < k
    · have kc := (hH.2 (k - 1 - m) (by omega)).1
      have kf := (hH.2 (k - 1 - m) (by omega)).2
      have H : Hid ((z : Int) % 256 = ((Pack.byteAt n m).toNat : Int)) := by
        unfold Hid; rw [Pack.byteAt_toNat, ← hz.out]; omega
      go_wp2_with fail
      refine ⟨⟨m + 1, _, by omega, by go_num, ⟨z / 256, by go_num, by omega, ?_⟩, (by rw [H.out]; exact hH.set (by omega) (Pack.byteAt n m)), hb.setCell (Nat.le_refl _) _, ?_⟩, by simp [intOf]; omega⟩
      · unfold Hid; rw [hz.out, Nat.div_div_eq_div_mul, Nat.pow_succ]
      · intro j h2 h3
        show (if j = k - 1 - m then _ else f j) = _
        split
        · rename_i hj
          unfold Pack.putF
          congr 1; omega
        · exact hf.out j (by omega) h3
    · have kc := hH.conv (P := Try.prog) (cap := k) 66 5 9 Try.underlying66 Try.underlying5 Try.underlying9
      go_wp2_with fail
      go_ret
      refine ⟨ret_string (textOf_congr fun j hj => hf.out j (by omega) hj), hb⟩

theorem rtake_bad (s : ByteArray) (k : Int) (h : ¬ (1 ≤ k ∧ k ≤ 8)) (w : World) :
    Calls Try.prog 54 #[.string s, .int .i64 k] w fun e w' => e = .returned (.tuple #[.int .u64 0, .string ⟨#[]⟩, .bool false]) ∧ w' = w := by
  by_cases h1 : k < 1
  · go_enter Try.func54, Try.ntmps54
    go_wp2_with fail
    go_ret3
    exact ⟨rfl, rfl⟩
  · have h2 : 8 < k := by omega
    go_enter Try.func54, Try.ntmps54
    go_wp2_with fail
    go_ret3
    exact ⟨rfl, rfl⟩
theorem rtake_short (s : ByteArray) (k : Nat) (h1 : 1 ≤ k) (h8 : k ≤ 8) (hk : s.size < k) (w : World) :
    Calls Try.prog 54 #[.string s, .int .i64 (k : Int)] w fun e w' => e = .returned (.tuple #[.int .u64 0, .string ⟨#[]⟩, .bool false]) ∧ w' = w := by
  have c1 : ¬ (k : Int) < 1 := by omega
  have c2 : ¬ 8 < (k : Int) := by omega
  go_enter Try.func54, Try.ntmps54
  go_wp2_with fail
  go_ret3
  exact ⟨rfl, rfl⟩

set_option maxHeartbeats 1000000 in
theorem rtake_ok (s : ByteArray) (hs : s.size ≤ 140737488355328) (k : Nat) (h1 : 1 ≤ k) (h8 : k ≤ 8) (hk : k ≤ s.size) (w : World) :
    Calls Try.prog 54 #[.string s, .int .i64 (k : Int)] w fun e w' => e = .returned (.tuple #[.int .u64 (Pack.val (s.data.toList.take k) : Int), .string (s.extract k s.size), .bool true]) ∧ Below w.heap.size w w' := by
  have c1 : ¬ (k : Int) < 1 := by omega
  have c2 : ¬ 8 < (k : Int) := by omega
  have hlen : ¬ s.size < k := by omega
  go_enter Try.func54, Try.ntmps54
  go_wp2_with fail
  go_loop [7, 8] (fun x i => ∃ m : Nat, m ≤ k ∧ i = .int .i64 m ∧ ∃ z : Nat, x = .int .u64 (z : Int) ∧ Hid (z = Pack.val (s.data.toList.take m))) (fun _ i => (k - intOf i).toNat)
  case atStart => exact ⟨0, by omega, rfl, 0, rfl, rfl⟩
  case round =>
    obtain ⟨m, hm, rfl, z, rfl, hz⟩ := hrel
    by_cases hlt : m < k
    · have hms : m < s.size := by omega
      have hsm := Pack.val_small (s.data.toList.take m) (by rw [List.length_take]; omega)
      have hb := s[m].toNat_lt
      have H : Hid (IntKind.u64.wrap (IntKind.u64.wrap (256 * (z : Int)) + IntKind.u64.wrap (s[m].toNat : Int)) = ((z * 256 + s[m].toNat : Nat) : Int)) :=
        Pack.mul_step z s[m].toNat (by rw [hz.out]; exact Nat.lt_of_le_of_lt (Nat.add_le_add_left (Nat.le_of_lt_succ hb) _) hsm)
      have Z : Hid (z * 256 + s[m].toNat = Pack.val (s.data.toList.take (m + 1))) := by
        unfold Hid; rw [Pack.val_take _ m (by rw [Array.length_toList]; exact hms), hz.out]; rfl
      clear hsm hb
      go_wp2_with fail
      go_round
      case rel => exact ⟨m + 1, by omega, by go_num, _, by rw [H.out], Z⟩
      case measure => simp [intOf]; omega
    · have q1 : (0 : Int) ≤ k := by omega
      have q2 : (k : Int) ≤ s.size := by omega
      go_wp2_with fail
      go_quiet (fail)
      go_wp2_with fail
      go_ret3
      obtain rfl : m = k := by omega
      have hz' := hz.out
      subst hz'
      exact ⟨rfl, below_draws _ _ _⟩

end Go.Proofs.Ytmbddjejbmjmfaa
