/-
  What the document's Turn returns: a text as long as the one that is handed in, which is the same outside of four bytes beside one another. Of the memory that was there nothing turns.
  Condition: a text has at most as many bytes as any text that can be read, and four.
-/
import Derived.Test.YtmbddjejbmjmfaaCrcRb
import Derived.Test.YtmbddjejbmjmfaaCrcXa
namespace Go.Proofs.Ytmbddjejbmjmfaa
set_option maxRecDepth 10000
open Go.RowKit

def Outside (s : ByteArray) (p : Int) (f : Nat → UInt8) : Prop := ∀ j : Nat, (p < 0 ∨ (j : Int) < p ∨ p + 4 ≤ (j : Int)) → f j = at0 s j

theorem Outside.set {s : ByteArray} {p k : Nat} {f : Nat → UInt8} (h : Outside s p f) (hk : k < 4) (v : UInt8) : Outside s p (fun j => if j = p + k then v else f j) := by
  intro j hj
  have : j ≠ p + k := by omega
  simp only [if_neg this]
  exact h j hj

set_option maxHeartbeats 400000 in
theorem turn_any (s : ByteArray) (p : Int) (m : BitVec 32) (w : World) (hs : s.size ≤ 140737488351240) :
    Calls Try.prog 17 #[.string s, .int .i64 p, .int .u32 (m.toNat : Int)] w fun e w' => ∃ f, e = .returned (.string (textOf s.size f)) ∧ Outside s p f ∧ Below w.heap.size w w' := by
  have hcv := Lib.run_convert_string_bytes (P := Try.prog) w 9 66 5 s Try.underlying9 Try.underlying66 Try.underlying5
  go_enter Try.func17, Try.ntmps17
  go_wp2_with fail
  refine (rfour_any _ _).mono ?_
  rintro e w1 ⟨rfl, hb1⟩
  clear hcv
  have hh1 : Hid (Held w.heap.size s.size (at0 s) w1 ∧ Below w.heap.size w w1) := by
    have h1 := (held_bytes w 5 s).below hb1
    have h2 := (below_bytes w 5 s).trans (hb1.mono (below_bytes w 5 s).size)
    exact ⟨h1, h2⟩
  clear hb1
  have h4 : (Crc.four m).size = 4 := rfl
  go_wp2
  go_loopw [9] (fun i w' => ∃ k : Nat, k ≤ 4 ∧ i = .int .i64 k ∧ ∃ f, Hid (Held w.heap.size s.size f w' ∧ Below w.heap.size w w' ∧ Outside s p f)) (fun i _ => 4 - (intOf i).toNat)
  case atStart => exact ⟨0, by omega, rfl, at0 s, hh1.out.1, hh1.out.2, fun _ _ => rfl⟩
  case round =>
    clear hh1
    obtain ⟨k, hk, rfl, f, hf⟩ := hrel
    by_cases hlt : k < 4
    · by_cases hp : 0 ≤ p
      · obtain ⟨q, rfl⟩ := Int.eq_ofNat_of_zero_le hp
        by_cases hq : q + k < s.size
        · have hc := (hf.out.1.2 (q + k) hq).1
          have hz := (hf.out.1.2 (q + k) hq).2
          have hq' : (q : Int) < (s.size : Int) - (k : Int) := by omega
          have hqk : ((q : Int) + (k : Int)).toNat = q + k := by omega
          go_wp2
          go_region
          go_wp2
          rw [xor8]
          exact ⟨⟨k + 1, by omega, by go_num, _, (hf.out.1.set hq _).drew, (hf.out.2.1.setCell (Nat.le_refl _) _).drew, hf.out.2.2.set hlt _⟩, by simp [intOf]; omega⟩
        · have hq' : ¬ (q : Int) < (s.size : Int) - (k : Int) := by omega
          go_wp2
          exact ⟨⟨k + 1, by omega, by go_num, f, hf⟩, by simp [intOf]; omega⟩
      · go_wp2
        exact ⟨⟨k + 1, by omega, by go_num, f, hf⟩, by simp [intOf]; omega⟩
    · have kc := hf.out.1.conv (P := Try.prog) (cap := grownCap w s.size 0 5) 66 5 9 Try.underlying66 Try.underlying5 Try.underlying9
      go_wp2
      go_ret
      exact ⟨f, rfl, hf.out.2.2, hf.out.2.1⟩

end Go.Proofs.Ytmbddjejbmjmfaa
