/-
  What is decoded may be, and is encoded as the same bytes, all bytes 0 are the zero entry, and one byte that is turned makes another entry, or none: the law EntryOnce returns true for every input.
  No condition beyond the form's own.
-/
import Derived.Test.YtokkjnlccgmpiaaRows
import Derived.Test.YtokkjnlccgmpiaaEntFx
import Derived.WalkKit
import Derived.ProofKit
import Derived.OpenShut
import Derived.ShutString
import Derived.SizedLaws
import Derived.ChangeOld
import Derived.Below
namespace Go.Proofs.Ytokkjnlccgmpiaa.entryOnce
open Go.Sort Go.ChangeShapes Go.WideShapes Go.ChangeAt Go.RowKit
open Go.ChangeMaps (open_string shut_string)
set_option linter.unusedVariables false

theorem own : ownKnob Try.prog.godebug = none := by kernel_rfl
theorem length_bytes (s : ByteArray) : s.data.toList.length = s.size := by rw [Array.length_toList]; rfl

theorem zeros : ∃ o8 o4 : ByteArray, o8.size = 8 ∧ o4.size = 4 ∧
    (∀ w, Calls Try.prog 17 #[.int .u64 0, .int .i64 8] w fun e w' => e = .returned (.string o8) ∧ Below w.heap.size w w') ∧
    (∀ w, Calls Try.prog 17 #[.int .u64 0, .int .i64 4] w fun e w' => e = .returned (.string o4) ∧ Below w.heap.size w w') ∧
    (∀ w, Calls Try.prog 15 #[.string (o8 ++ o8 ++ o8 ++ o4)] w fun e w' => e = .returned (.tuple #[.agg #[.int .i64 0, .int .i64 0, .int .i64 0, .int .u64 0, .int .u64 0, .string ⟨#[]⟩], .int .i64 0]) ∧ Below w.heap.size w w') := by
  refine ⟨Pack.putB 0 8, Pack.putB 0 4, Pack.putB_size _ _, Pack.putB_size _ _, fun w => rput_ok 0 (by decide) 8 (by decide) (by decide) w, fun w => rput_ok 0 (by decide) 4 (by decide) (by decide) w, fun w => ?_⟩
  have h : Pack.putB 0 8 ++ Pack.putB 0 8 ++ Pack.putB 0 8 ++ Pack.putB 0 4 = Ent.bytes 0 0 0 0 0 ⟨#[]⟩ := by decide +kernel
  rw [h]
  exact decode_back 0 0 0 0 0 ⟨#[]⟩ (by decide +kernel) (by decide) (by decide) (by decide) (by decide) (by decide) (by decide) w

def turned (s : ByteArray) (j : Nat) (b : UInt8) : ByteArray := textOf s.size (fun q => if q = j then at0 s j ^^^ b else at0 s q)
theorem turned_ne (s : ByteArray) (j : Nat) (b : UInt8) (hj : j < s.size) (hb : ¬ b = 0) : ¬ turned s j b = s := by
  intro e
  have h1 : turned s j b = textOf s.size (at0 s) := by rw [e, textOf_at0]
  have h2 := congrArg (fun x : ByteArray => x.data.toList) h1
  unfold turned at h2
  simp only [textOf_data] at h2
  have h3 := congrArg (fun l : List UInt8 => l[j]?) h2
  simp [hj] at h3
  have h4 := congrArg (fun q => at0 s j ^^^ q) h3
  simp only [← UInt8.xor_assoc, UInt8.xor_self, UInt8.zero_xor] at h4
  exact hb h4

theorem xor8 (a b : UInt8) : bits .xor .u8 (a.toNat : Int) (b.toNat : Int) = ((a ^^^ b).toNat : Int) := by
  rw [u8_xor_nat _ _ a.toNat_lt b.toNat_lt, UInt8.toNat_xor]

set_option maxHeartbeats 1000000 in
theorem once_none (s : ByteArray) (i : Int) (b : UInt8) (HD : ∀ w, Calls Try.prog 15 #[.string s] w fun e w' => e = .returned (.tuple #[.agg #[.int .i64 0, .int .i64 0, .int .i64 0, .int .u64 0, .int .u64 0, .string ⟨#[]⟩], .int .i64 30]) ∧ Below w.heap.size w w') (w : World) :
    Calls Try.prog 6 #[.string s, .int .i64 i, .int .u8 (b.toNat : Int)] w fun e w' => e = .returned (.bool true) ∧ Below w.heap.size w w' := by
  obtain ⟨o8, o4, z8, z4, p8, p4, dz⟩ := zeros
  have kz := neq_ent 0 0 0 0 0 ⟨#[]⟩ 0 0 0 0 0 ⟨#[]⟩ true (by decide)
  go_enter Try.func6, Try.ntmps6
  go_wp2_with fail
  refine (HD _).mono ?_
  rintro e w1 ⟨rfl, hb1⟩
  have a1 := below_box w1 (.cells #[.int .i64 0, .int .i64 0, .int .i64 0, .int .u64 0, .int .u64 0, .string ⟨#[]⟩] 24)
  have e1 := ent_box w1 0 0 0 0 0 ⟨#[]⟩ 24
  have l1 : w1.heap.size < (w1.alloc (.cells #[.int .i64 0, .int .i64 0, .int .i64 0, .int .u64 0, .int .u64 0, .string ⟨#[]⟩] 24)).heap.size := by simp
  have h1 := hb1.trans (a1.mono hb1.size)
  clear a1 hb1
  go_wp2_with fail
  refine (p8 _).mono ?_
  rintro e w2 ⟨rfl, hb2⟩
  have e2 := e1.below l1 hb2
  have h2 := h1.trans (hb2.mono h1.size)
  have l2 := Nat.lt_of_lt_of_le l1 hb2.size
  clear hb2 e1 h1 l1
  go_wp2_with fail
  refine (p8 _).mono ?_
  rintro e w3 ⟨rfl, hb3⟩
  have e3 := e2.below l2 hb3
  have h3 := h2.trans (hb3.mono h2.size)
  have l3 := Nat.lt_of_lt_of_le l2 hb3.size
  clear hb3 e2 h2 l2
  go_wp2_with fail
  refine (p8 _).mono ?_
  rintro e w4 ⟨rfl, hb4⟩
  have e4 := e3.below l3 hb4
  have h4 := h3.trans (hb4.mono h3.size)
  have l4 := Nat.lt_of_lt_of_le l3 hb4.size
  clear hb4 e3 h3 l3
  go_wp2_with fail
  refine (p4 _).mono ?_
  rintro e w5 ⟨rfl, hb5⟩
  have e5 := e4.below l4 hb5
  have h5 := h4.trans (hb5.mono h4.size)
  have l5 := Nat.lt_of_lt_of_le l4 hb5.size
  clear hb5 e4 h4 l4
  go_wp2_with fail
  refine (dz _).mono ?_
  rintro e w6 ⟨rfl, hb6⟩
  have e6 := e5.below l5 hb6
  have h6 := h5.trans (hb6.mono h5.size)
  have l6 := Nat.lt_of_lt_of_le l5 hb6.size
  clear hb6 e5 h5 l5
  have a6 := below_box w6 (.cells #[.int .i64 0, .int .i64 0, .int .i64 0, .int .u64 0, .int .u64 0, .string ⟨#[]⟩] 24)
  have y6 := ent_box w6 0 0 0 0 0 ⟨#[]⟩ 24
  have e6' := e6.below l6 a6
  have l6' := Nat.lt_of_lt_of_le l6 a6.size
  have h6' := h6.trans (a6.mono h6.size)
  clear e6 h6 a6
  go_wp2_with fail
  refine (fixed_any _).mono ?_
  rintro e w7 ⟨rfl, hb7⟩
  have e7 := e6'.below l6' hb7
  have y7 := y6.below (by simp) hb7
  have h7 := h6'.trans (hb7.mono h6'.size)
  have l7 := Nat.lt_of_lt_of_le l6' hb7.size
  clear hb7 e6' y6 h6' l6' l6
  obtain ⟨y0, y1, y2, y3, y4, y5⟩ := y7
  go_wp2_with fail
  go_ret
  exact ⟨rfl, h7⟩

set_option maxHeartbeats 1000000 in
theorem once_low (s : ByteArray) (i : Int) (b : UInt8) (k sv g : Int) (se n : Nat) (t : ByteArray) (HD : ∀ w, Calls Try.prog 15 #[.string s] w fun e w' => e = .returned (.tuple #[.agg #[.int .i64 k, .int .i64 sv, .int .i64 g, .int .u64 (se : Int), .int .u64 (n : Int), .string t], .int .i64 0]) ∧ Below w.heap.size w w')
    (ho : i < 0) (w : World) :
    Calls Try.prog 6 #[.string s, .int .i64 i, .int .u8 (b.toNat : Int)] w fun e w' => e = .returned (.bool true) ∧ Below w.heap.size w w' := by
  obtain ⟨o8, o4, z8, z4, p8, p4, dz⟩ := zeros
  have kz := neq_ent 0 0 0 0 0 ⟨#[]⟩ 0 0 0 0 0 ⟨#[]⟩ true (by decide)
  go_enter Try.func6, Try.ntmps6
  go_wp2_with fail
  refine (HD _).mono ?_
  rintro e w1 ⟨rfl, hb1⟩
  have a1 := below_box w1 (.cells #[.int .i64 k, .int .i64 sv, .int .i64 g, .int .u64 (se : Int), .int .u64 (n : Int), .string t] 24)
  have e1 := ent_box w1 k sv g se n t 24
  have l1 : w1.heap.size < (w1.alloc (.cells #[.int .i64 k, .int .i64 sv, .int .i64 g, .int .u64 (se : Int), .int .u64 (n : Int), .string t] 24)).heap.size := by simp
  have h1 := hb1.trans (a1.mono hb1.size)
  clear a1 hb1
  go_wp2_with fail
  refine (p8 _).mono ?_
  rintro e w2 ⟨rfl, hb2⟩
  have e2 := e1.below l1 hb2
  have h2 := h1.trans (hb2.mono h1.size)
  have l2 := Nat.lt_of_lt_of_le l1 hb2.size
  clear hb2 e1 h1 l1
  go_wp2_with fail
  refine (p8 _).mono ?_
  rintro e w3 ⟨rfl, hb3⟩
  have e3 := e2.below l2 hb3
  have h3 := h2.trans (hb3.mono h2.size)
  have l3 := Nat.lt_of_lt_of_le l2 hb3.size
  clear hb3 e2 h2 l2
  go_wp2_with fail
  refine (p8 _).mono ?_
  rintro e w4 ⟨rfl, hb4⟩
  have e4 := e3.below l3 hb4
  have h4 := h3.trans (hb4.mono h3.size)
  have l4 := Nat.lt_of_lt_of_le l3 hb4.size
  clear hb4 e3 h3 l3
  go_wp2_with fail
  refine (p4 _).mono ?_
  rintro e w5 ⟨rfl, hb5⟩
  have e5 := e4.below l4 hb5
  have h5 := h4.trans (hb5.mono h4.size)
  have l5 := Nat.lt_of_lt_of_le l4 hb5.size
  clear hb5 e4 h4 l4
  go_wp2_with fail
  refine (dz _).mono ?_
  rintro e w6 ⟨rfl, hb6⟩
  have e6 := e5.below l5 hb6
  have h6 := h5.trans (hb6.mono h5.size)
  have l6 := Nat.lt_of_lt_of_le l5 hb6.size
  clear hb6 e5 h5 l5
  have a6 := below_box w6 (.cells #[.int .i64 0, .int .i64 0, .int .i64 0, .int .u64 0, .int .u64 0, .string ⟨#[]⟩] 24)
  have y6 := ent_box w6 0 0 0 0 0 ⟨#[]⟩ 24
  have e6' := e6.below l6 a6
  have l6' := Nat.lt_of_lt_of_le l6 a6.size
  have h6' := h6.trans (a6.mono h6.size)
  clear e6 h6 a6
  go_wp2_with fail
  refine (fixed_any _).mono ?_
  rintro e w7 ⟨rfl, hb7⟩
  have e7 := e6'.below l6' hb7
  have y7 := y6.below (by simp) hb7
  have h7 := h6'.trans (hb7.mono h6'.size)
  have l7 := Nat.lt_of_lt_of_le l6' hb7.size
  clear hb7 e6' y6 h6' l6' l6
  obtain ⟨y0, y1, y2, y3, y4, y5⟩ := y7
  go_wp2_with fail
  go_ret
  exact ⟨rfl, h7⟩

set_option maxHeartbeats 1000000 in
theorem once_high (s : ByteArray) (i : Int) (b : UInt8) (k sv g : Int) (se n : Nat) (t : ByteArray) (HD : ∀ w, Calls Try.prog 15 #[.string s] w fun e w' => e = .returned (.tuple #[.agg #[.int .i64 k, .int .i64 sv, .int .i64 g, .int .u64 (se : Int), .int .u64 (n : Int), .string t], .int .i64 0]) ∧ Below w.heap.size w w')
    (h0 : ¬ i < 0) (ho : (s.size : Int) ≤ i) (w : World) :
    Calls Try.prog 6 #[.string s, .int .i64 i, .int .u8 (b.toNat : Int)] w fun e w' => e = .returned (.bool true) ∧ Below w.heap.size w w' := by
  obtain ⟨o8, o4, z8, z4, p8, p4, dz⟩ := zeros
  have kz := neq_ent 0 0 0 0 0 ⟨#[]⟩ 0 0 0 0 0 ⟨#[]⟩ true (by decide)
  go_enter Try.func6, Try.ntmps6
  go_wp2_with fail
  refine (HD _).mono ?_
  rintro e w1 ⟨rfl, hb1⟩
  have a1 := below_box w1 (.cells #[.int .i64 k, .int .i64 sv, .int .i64 g, .int .u64 (se : Int), .int .u64 (n : Int), .string t] 24)
  have e1 := ent_box w1 k sv g se n t 24
  have l1 : w1.heap.size < (w1.alloc (.cells #[.int .i64 k, .int .i64 sv, .int .i64 g, .int .u64 (se : Int), .int .u64 (n : Int), .string t] 24)).heap.size := by simp
  have h1 := hb1.trans (a1.mono hb1.size)
  clear a1 hb1
  go_wp2_with fail
  refine (p8 _).mono ?_
  rintro e w2 ⟨rfl, hb2⟩
  have e2 := e1.below l1 hb2
  have h2 := h1.trans (hb2.mono h1.size)
  have l2 := Nat.lt_of_lt_of_le l1 hb2.size
  clear hb2 e1 h1 l1
  go_wp2_with fail
  refine (p8 _).mono ?_
  rintro e w3 ⟨rfl, hb3⟩
  have e3 := e2.below l2 hb3
  have h3 := h2.trans (hb3.mono h2.size)
  have l3 := Nat.lt_of_lt_of_le l2 hb3.size
  clear hb3 e2 h2 l2
  go_wp2_with fail
  refine (p8 _).mono ?_
  rintro e w4 ⟨rfl, hb4⟩
  have e4 := e3.below l3 hb4
  have h4 := h3.trans (hb4.mono h3.size)
  have l4 := Nat.lt_of_lt_of_le l3 hb4.size
  clear hb4 e3 h3 l3
  go_wp2_with fail
  refine (p4 _).mono ?_
  rintro e w5 ⟨rfl, hb5⟩
  have e5 := e4.below l4 hb5
  have h5 := h4.trans (hb5.mono h4.size)
  have l5 := Nat.lt_of_lt_of_le l4 hb5.size
  clear hb5 e4 h4 l4
  go_wp2_with fail
  refine (dz _).mono ?_
  rintro e w6 ⟨rfl, hb6⟩
  have e6 := e5.below l5 hb6
  have h6 := h5.trans (hb6.mono h5.size)
  have l6 := Nat.lt_of_lt_of_le l5 hb6.size
  clear hb6 e5 h5 l5
  have a6 := below_box w6 (.cells #[.int .i64 0, .int .i64 0, .int .i64 0, .int .u64 0, .int .u64 0, .string ⟨#[]⟩] 24)
  have y6 := ent_box w6 0 0 0 0 0 ⟨#[]⟩ 24
  have e6' := e6.below l6 a6
  have l6' := Nat.lt_of_lt_of_le l6 a6.size
  have h6' := h6.trans (a6.mono h6.size)
  clear e6 h6 a6
  go_wp2_with fail
  refine (fixed_any _).mono ?_
  rintro e w7 ⟨rfl, hb7⟩
  have e7 := e6'.below l6' hb7
  have y7 := y6.below (by simp) hb7
  have h7 := h6'.trans (hb7.mono h6'.size)
  have l7 := Nat.lt_of_lt_of_le l6' hb7.size
  clear hb7 e6' y6 h6' l6' l6
  obtain ⟨y0, y1, y2, y3, y4, y5⟩ := y7
  go_wp2_with fail
  go_ret
  exact ⟨rfl, h7⟩

set_option maxHeartbeats 1000000 in
theorem once_zero (s : ByteArray) (i : Int) (b : UInt8) (k sv g : Int) (se n : Nat) (t : ByteArray) (HD : ∀ w, Calls Try.prog 15 #[.string s] w fun e w' => e = .returned (.tuple #[.agg #[.int .i64 k, .int .i64 sv, .int .i64 g, .int .u64 (se : Int), .int .u64 (n : Int), .string t], .int .i64 0]) ∧ Below w.heap.size w w')
    (h0 : ¬ i < 0) (hi : ¬ (s.size : Int) ≤ i) (ho : ((b.toNat : Int) == 0) = true) (w : World) :
    Calls Try.prog 6 #[.string s, .int .i64 i, .int .u8 (b.toNat : Int)] w fun e w' => e = .returned (.bool true) ∧ Below w.heap.size w w' := by
  obtain ⟨o8, o4, z8, z4, p8, p4, dz⟩ := zeros
  have kz := neq_ent 0 0 0 0 0 ⟨#[]⟩ 0 0 0 0 0 ⟨#[]⟩ true (by decide)
  go_enter Try.func6, Try.ntmps6
  go_wp2_with fail
  refine (HD _).mono ?_
  rintro e w1 ⟨rfl, hb1⟩
  have a1 := below_box w1 (.cells #[.int .i64 k, .int .i64 sv, .int .i64 g, .int .u64 (se : Int), .int .u64 (n : Int), .string t] 24)
  have e1 := ent_box w1 k sv g se n t 24
  have l1 : w1.heap.size < (w1.alloc (.cells #[.int .i64 k, .int .i64 sv, .int .i64 g, .int .u64 (se : Int), .int .u64 (n : Int), .string t] 24)).heap.size := by simp
  have h1 := hb1.trans (a1.mono hb1.size)
  clear a1 hb1
  go_wp2_with fail
  refine (p8 _).mono ?_
  rintro e w2 ⟨rfl, hb2⟩
  have e2 := e1.below l1 hb2
  have h2 := h1.trans (hb2.mono h1.size)
  have l2 := Nat.lt_of_lt_of_le l1 hb2.size
  clear hb2 e1 h1 l1
  go_wp2_with fail
  refine (p8 _).mono ?_
  rintro e w3 ⟨rfl, hb3⟩
  have e3 := e2.below l2 hb3
  have h3 := h2.trans (hb3.mono h2.size)
  have l3 := Nat.lt_of_lt_of_le l2 hb3.size
  clear hb3 e2 h2 l2
  go_wp2_with fail
  refine (p8 _).mono ?_
  rintro e w4 ⟨rfl, hb4⟩
  have e4 := e3.below l3 hb4
  have h4 := h3.trans (hb4.mono h3.size)
  have l4 := Nat.lt_of_lt_of_le l3 hb4.size
  clear hb4 e3 h3 l3
  go_wp2_with fail
  refine (p4 _).mono ?_
  rintro e w5 ⟨rfl, hb5⟩
  have e5 := e4.below l4 hb5
  have h5 := h4.trans (hb5.mono h4.size)
  have l5 := Nat.lt_of_lt_of_le l4 hb5.size
  clear hb5 e4 h4 l4
  go_wp2_with fail
  refine (dz _).mono ?_
  rintro e w6 ⟨rfl, hb6⟩
  have e6 := e5.below l5 hb6
  have h6 := h5.trans (hb6.mono h5.size)
  have l6 := Nat.lt_of_lt_of_le l5 hb6.size
  clear hb6 e5 h5 l5
  have a6 := below_box w6 (.cells #[.int .i64 0, .int .i64 0, .int .i64 0, .int .u64 0, .int .u64 0, .string ⟨#[]⟩] 24)
  have y6 := ent_box w6 0 0 0 0 0 ⟨#[]⟩ 24
  have e6' := e6.below l6 a6
  have l6' := Nat.lt_of_lt_of_le l6 a6.size
  have h6' := h6.trans (a6.mono h6.size)
  clear e6 h6 a6
  go_wp2_with fail
  refine (fixed_any _).mono ?_
  rintro e w7 ⟨rfl, hb7⟩
  have e7 := e6'.below l6' hb7
  have y7 := y6.below (by simp) hb7
  have h7 := h6'.trans (hb7.mono h6'.size)
  have l7 := Nat.lt_of_lt_of_le l6' hb7.size
  clear hb7 e6' y6 h6' l6' l6
  obtain ⟨y0, y1, y2, y3, y4, y5⟩ := y7
  go_wp2_with fail
  go_ret
  exact ⟨rfl, h7⟩

set_option maxHeartbeats 1000000 in
theorem once_none_in (s : ByteArray) (j : Nat) (b : UInt8) (hj : j < s.size) (hb0 : ((b.toNat : Int) == 0) = false) (k sv g : Int) (se n : Nat) (t : ByteArray) (HD : ∀ w, Calls Try.prog 15 #[.string s] w fun e w' => e = .returned (.tuple #[.agg #[.int .i64 k, .int .i64 sv, .int .i64 g, .int .u64 (se : Int), .int .u64 (n : Int), .string t], .int .i64 0]) ∧ Below w.heap.size w w')
    (HE : ∀ w, Calls Try.prog 8 #[.agg #[.int .i64 k, .int .i64 sv, .int .i64 g, .int .u64 (se : Int), .int .u64 (n : Int), .string t]] w fun e w' => e = .returned (.tuple #[.string s, .int .i64 0]) ∧ Below w.heap.size w w')
     (HT : ∀ w, Calls Try.prog 15 #[.string (turned s j b)] w fun e w' => e = .returned (.tuple #[.agg #[.int .i64 0, .int .i64 0, .int .i64 0, .int .u64 0, .int .u64 0, .string ⟨#[]⟩], .int .i64 30]) ∧ Below w.heap.size w w')
    (w : World) :
    Calls Try.prog 6 #[.string s, .int .i64 (j : Int), .int .u8 (b.toNat : Int)] w fun e w' => e = .returned (.bool true) ∧ Below w.heap.size w w' := by
  unfold turned at HT
  have hss : (s.toList == s.toList) = true := beq_self_eq_true _
  obtain ⟨o8, o4, z8, z4, p8, p4, dz⟩ := zeros
  have kz := neq_ent 0 0 0 0 0 ⟨#[]⟩ 0 0 0 0 0 ⟨#[]⟩ true (by decide)
  go_enter Try.func6, Try.ntmps6
  go_wp2_with fail
  refine (HD _).mono ?_
  rintro e w1 ⟨rfl, hb1⟩
  have a1 := below_box w1 (.cells #[.int .i64 k, .int .i64 sv, .int .i64 g, .int .u64 (se : Int), .int .u64 (n : Int), .string t] 24)
  have e1 := ent_box w1 k sv g se n t 24
  have l1 : w1.heap.size < (w1.alloc (.cells #[.int .i64 k, .int .i64 sv, .int .i64 g, .int .u64 (se : Int), .int .u64 (n : Int), .string t] 24)).heap.size := by simp
  have h1 := hb1.trans (a1.mono hb1.size)
  clear a1 hb1
  go_wp2_with fail
  refine (p8 _).mono ?_
  rintro e w2 ⟨rfl, hb2⟩
  have e2 := e1.below l1 hb2
  have h2 := h1.trans (hb2.mono h1.size)
  have l2 := Nat.lt_of_lt_of_le l1 hb2.size
  clear hb2 e1 h1 l1
  go_wp2_with fail
  refine (p8 _).mono ?_
  rintro e w3 ⟨rfl, hb3⟩
  have e3 := e2.below l2 hb3
  have h3 := h2.trans (hb3.mono h2.size)
  have l3 := Nat.lt_of_lt_of_le l2 hb3.size
  clear hb3 e2 h2 l2
  go_wp2_with fail
  refine (p8 _).mono ?_
  rintro e w4 ⟨rfl, hb4⟩
  have e4 := e3.below l3 hb4
  have h4 := h3.trans (hb4.mono h3.size)
  have l4 := Nat.lt_of_lt_of_le l3 hb4.size
  clear hb4 e3 h3 l3
  go_wp2_with fail
  refine (p4 _).mono ?_
  rintro e w5 ⟨rfl, hb5⟩
  have e5 := e4.below l4 hb5
  have h5 := h4.trans (hb5.mono h4.size)
  have l5 := Nat.lt_of_lt_of_le l4 hb5.size
  clear hb5 e4 h4 l4
  go_wp2_with fail
  refine (dz _).mono ?_
  rintro e w6 ⟨rfl, hb6⟩
  have e6 := e5.below l5 hb6
  have h6 := h5.trans (hb6.mono h5.size)
  have l6 := Nat.lt_of_lt_of_le l5 hb6.size
  clear hb6 e5 h5 l5
  have a6 := below_box w6 (.cells #[.int .i64 0, .int .i64 0, .int .i64 0, .int .u64 0, .int .u64 0, .string ⟨#[]⟩] 24)
  have y6 := ent_box w6 0 0 0 0 0 ⟨#[]⟩ 24
  have e6' := e6.below l6 a6
  have l6' := Nat.lt_of_lt_of_le l6 a6.size
  have h6' := h6.trans (a6.mono h6.size)
  clear e6 h6 a6
  go_wp2_with fail
  refine (fixed_any _).mono ?_
  rintro e w7 ⟨rfl, hb7⟩
  have e7 := e6'.below l6' hb7
  have y7 := y6.below (by simp) hb7
  have h7 := h6'.trans (hb7.mono h6'.size)
  have l7 := Nat.lt_of_lt_of_le l6' hb7.size
  clear hb7 e6' y6 h6' l6' l6
  obtain ⟨y0, y1, y2, y3, y4, y5⟩ := y7
  obtain ⟨x0, x1, x2, x3, x4, x5⟩ := id e7
  go_wp2_with fail
  refine (HE _).mono ?_
  rintro e w8 ⟨rfl, hb8⟩
  have e8 := e7.below l7 hb8
  have h8 := h7.trans (hb8.mono h7.size)
  have l8 := Nat.lt_of_lt_of_le l7 hb8.size
  clear hb8 e7 h7 l7 x0 x1 x2 x3 x4 x5 y0 y1 y2 y3 y4 y5
  have hcv := Lib.run_convert_string_bytes (P := Try.prog) w8 9 38 5 s Try.underlying9 Try.underlying38 Try.underlying5
  have hH := held_bytes w8 5 s
  have kc := (hH.2 j hj).1
  have kf := (hH.2 j hj).2
  have hx := xor8 (at0 s j) b
  have hT := hH.set hj (at0 s j ^^^ b)
  have kcv := hT.conv (P := Try.prog) (cap := grownCap w8 s.size 0 5) 38 5 9 Try.underlying38 Try.underlying5 Try.underlying9
  have bW : Below w8.heap.size w8 ((Lib.bytesWorld w8 5 s).setCell ⟨w8.heap.size, j, none⟩ (.int .u8 ((at0 s j ^^^ b).toNat : Int))) := (below_bytes w8 5 s).setCell (Nat.le_refl _) _
  rw [UInt8.toNat_xor] at kcv bW
  clear hH hT
  go_wp2_with fail
  refine (HT _).mono ?_
  rintro e w9 ⟨rfl, hb9⟩
  have e9 := (e8.below l8 bW).below (Nat.lt_of_lt_of_le l8 bW.size) hb9
  have h9 := h8.trans ((bW.mono h8.size).trans (hb9.mono (Nat.le_trans h8.size bW.size)))
  have l9 := Nat.lt_of_lt_of_le (Nat.lt_of_lt_of_le l8 bW.size) hb9.size
  clear hb9 bW e8 h8 l8 hcv kc kf hx kcv
  obtain ⟨x0, x1, x2, x3, x4, x5⟩ := e9
  go_wp2_with fail
  go_ret
  exact ⟨rfl, h9.trans ((below_box _ _).mono h9.size)⟩

set_option maxHeartbeats 1000000 in
theorem once_other_in (s : ByteArray) (j : Nat) (b : UInt8) (hj : j < s.size) (hb0 : ((b.toNat : Int) == 0) = false) (k sv g : Int) (se n : Nat) (t : ByteArray) (HD : ∀ w, Calls Try.prog 15 #[.string s] w fun e w' => e = .returned (.tuple #[.agg #[.int .i64 k, .int .i64 sv, .int .i64 g, .int .u64 (se : Int), .int .u64 (n : Int), .string t], .int .i64 0]) ∧ Below w.heap.size w w')
    (HE : ∀ w, Calls Try.prog 8 #[.agg #[.int .i64 k, .int .i64 sv, .int .i64 g, .int .u64 (se : Int), .int .u64 (n : Int), .string t]] w fun e w' => e = .returned (.tuple #[.string s, .int .i64 0]) ∧ Below w.heap.size w w')
    (k' sv' g' : Int) (se' n' : Nat) (t' : ByteArray) (hne : decide (k' = k ∧ sv' = sv ∧ g' = g ∧ (se' : Int) = (se : Int) ∧ (n' : Int) = (n : Int) ∧ t' = t) = false) (HT : ∀ w, Calls Try.prog 15 #[.string (turned s j b)] w fun e w' => e = .returned (.tuple #[.agg #[.int .i64 k', .int .i64 sv', .int .i64 g', .int .u64 (se' : Int), .int .u64 (n' : Int), .string t'], .int .i64 0]) ∧ Below w.heap.size w w')
    (w : World) :
    Calls Try.prog 6 #[.string s, .int .i64 (j : Int), .int .u8 (b.toNat : Int)] w fun e w' => e = .returned (.bool true) ∧ Below w.heap.size w w' := by
  unfold turned at HT
  have hss : (s.toList == s.toList) = true := beq_self_eq_true _
  have kx := neq_ent k' sv' g' se' n' t' k sv g se n t false hne
  clear hne
  obtain ⟨o8, o4, z8, z4, p8, p4, dz⟩ := zeros
  have kz := neq_ent 0 0 0 0 0 ⟨#[]⟩ 0 0 0 0 0 ⟨#[]⟩ true (by decide)
  go_enter Try.func6, Try.ntmps6
  go_wp2_with fail
  refine (HD _).mono ?_
  rintro e w1 ⟨rfl, hb1⟩
  have a1 := below_box w1 (.cells #[.int .i64 k, .int .i64 sv, .int .i64 g, .int .u64 (se : Int), .int .u64 (n : Int), .string t] 24)
  have e1 := ent_box w1 k sv g se n t 24
  have l1 : w1.heap.size < (w1.alloc (.cells #[.int .i64 k, .int .i64 sv, .int .i64 g, .int .u64 (se : Int), .int .u64 (n : Int), .string t] 24)).heap.size := by simp
  have h1 := hb1.trans (a1.mono hb1.size)
  clear a1 hb1
  go_wp2_with fail
  refine (p8 _).mono ?_
  rintro e w2 ⟨rfl, hb2⟩
  have e2 := e1.below l1 hb2
  have h2 := h1.trans (hb2.mono h1.size)
  have l2 := Nat.lt_of_lt_of_le l1 hb2.size
  clear hb2 e1 h1 l1
  go_wp2_with fail
  refine (p8 _).mono ?_
  rintro e w3 ⟨rfl, hb3⟩
  have e3 := e2.below l2 hb3
  have h3 := h2.trans (hb3.mono h2.size)
  have l3 := Nat.lt_of_lt_of_le l2 hb3.size
  clear hb3 e2 h2 l2
  go_wp2_with fail
  refine (p8 _).mono ?_
  rintro e w4 ⟨rfl, hb4⟩
  have e4 := e3.below l3 hb4
  have h4 := h3.trans (hb4.mono h3.size)
  have l4 := Nat.lt_of_lt_of_le l3 hb4.size
  clear hb4 e3 h3 l3
  go_wp2_with fail
  refine (p4 _).mono ?_
  rintro e w5 ⟨rfl, hb5⟩
  have e5 := e4.below l4 hb5
  have h5 := h4.trans (hb5.mono h4.size)
  have l5 := Nat.lt_of_lt_of_le l4 hb5.size
  clear hb5 e4 h4 l4
  go_wp2_with fail
  refine (dz _).mono ?_
  rintro e w6 ⟨rfl, hb6⟩
  have e6 := e5.below l5 hb6
  have h6 := h5.trans (hb6.mono h5.size)
  have l6 := Nat.lt_of_lt_of_le l5 hb6.size
  clear hb6 e5 h5 l5
  have a6 := below_box w6 (.cells #[.int .i64 0, .int .i64 0, .int .i64 0, .int .u64 0, .int .u64 0, .string ⟨#[]⟩] 24)
  have y6 := ent_box w6 0 0 0 0 0 ⟨#[]⟩ 24
  have e6' := e6.below l6 a6
  have l6' := Nat.lt_of_lt_of_le l6 a6.size
  have h6' := h6.trans (a6.mono h6.size)
  clear e6 h6 a6
  go_wp2_with fail
  refine (fixed_any _).mono ?_
  rintro e w7 ⟨rfl, hb7⟩
  have e7 := e6'.below l6' hb7
  have y7 := y6.below (by simp) hb7
  have h7 := h6'.trans (hb7.mono h6'.size)
  have l7 := Nat.lt_of_lt_of_le l6' hb7.size
  clear hb7 e6' y6 h6' l6' l6
  obtain ⟨y0, y1, y2, y3, y4, y5⟩ := y7
  obtain ⟨x0, x1, x2, x3, x4, x5⟩ := id e7
  go_wp2_with fail
  refine (HE _).mono ?_
  rintro e w8 ⟨rfl, hb8⟩
  have e8 := e7.below l7 hb8
  have h8 := h7.trans (hb8.mono h7.size)
  have l8 := Nat.lt_of_lt_of_le l7 hb8.size
  clear hb8 e7 h7 l7 x0 x1 x2 x3 x4 x5 y0 y1 y2 y3 y4 y5
  have hcv := Lib.run_convert_string_bytes (P := Try.prog) w8 9 38 5 s Try.underlying9 Try.underlying38 Try.underlying5
  have hH := held_bytes w8 5 s
  have kc := (hH.2 j hj).1
  have kf := (hH.2 j hj).2
  have hx := xor8 (at0 s j) b
  have hT := hH.set hj (at0 s j ^^^ b)
  have kcv := hT.conv (P := Try.prog) (cap := grownCap w8 s.size 0 5) 38 5 9 Try.underlying38 Try.underlying5 Try.underlying9
  have bW : Below w8.heap.size w8 ((Lib.bytesWorld w8 5 s).setCell ⟨w8.heap.size, j, none⟩ (.int .u8 ((at0 s j ^^^ b).toNat : Int))) := (below_bytes w8 5 s).setCell (Nat.le_refl _) _
  rw [UInt8.toNat_xor] at kcv bW
  clear hH hT
  go_wp2_with fail
  refine (HT _).mono ?_
  rintro e w9 ⟨rfl, hb9⟩
  have e9 := (e8.below l8 bW).below (Nat.lt_of_lt_of_le l8 bW.size) hb9
  have h9 := h8.trans ((bW.mono h8.size).trans (hb9.mono (Nat.le_trans h8.size bW.size)))
  have l9 := Nat.lt_of_lt_of_le (Nat.lt_of_lt_of_le l8 bW.size) hb9.size
  clear hb9 bW e8 h8 l8 hcv kc kf hx kcv
  obtain ⟨x0, x1, x2, x3, x4, x5⟩ := e9
  go_wp2_with fail
  go_ret
  exact ⟨rfl, h9.trans ((below_box _ _).mono h9.size)⟩

theorem walk (s : ByteArray) (_hs : s.size ≤ 140737488351232) (i : Int) (_hi : (Lit.int .i64 i).wf = true) (b0 : Int) (hb : (Lit.int .u8 b0).wf = true) (w : World) :
    Calls Try.prog 6 #[.string s, .int .i64 i, .int .u8 b0] w fun e w' => e = .returned (.bool true) ∧ Below w.heap.size w w' := by
  have hbb := bounds_u8 hb
  obtain ⟨b, rfl⟩ : ∃ b : UInt8, b0 = (b.toNat : Int) := ⟨UInt8.ofNat b0.toNat, by rw [UInt8.toNat_ofNat']; omega⟩
  rcases decode_any s with ⟨HD, _⟩ | ⟨k, sv, g, se, n, t, hs, hm, HD, _⟩
  · exact once_none s i b HD w
  · by_cases h0 : i < 0
    · exact once_low s i b k sv g se n t HD h0 w
    by_cases h1 : (s.size : Int) ≤ i
    · exact once_high s i b k sv g se n t HD h0 h1 w
    by_cases h2 : (b.toNat : Int) = 0
    · exact once_zero s i b k sv g se n t HD h0 h1 (by rw [h2]; rfl) w
    obtain ⟨j, rfl⟩ : ∃ j : Nat, i = (j : Int) := ⟨i.toNat, by omega⟩
    have hj : j < s.size := by omega
    have hb0 : ((b.toNat : Int) == 0) = false := by rw [beq_eq_false_iff_ne]; exact h2
    have hbz : ¬ b = 0 := fun e => h2 (by rw [e]; rfl)
    obtain ⟨a1, a2, a3, q1, q2, q3, g1, g2, g3, g4, g5, g6⟩ := Ent.may_nats hm
    have HE : ∀ w, Calls Try.prog 8 #[.agg #[.int .i64 (k : Int), .int .i64 (sv : Int), .int .i64 (g : Int), .int .u64 (se : Int), .int .u64 (n : Int), .string t]] w fun e w' => e = .returned (.tuple #[.string s, .int .i64 0]) ∧ Below w.heap.size w w' := by
      obtain rfl : a1 = k := by omega
      obtain rfl : a2 = sv := by omega
      obtain rfl : a3 = g := by omega
      rw [hs]
      exact fun w => encode_ok a1 a2 a3 se n t hm g1 g2 g3 g6 w
    have hne := turned_ne s j b hj hbz
    rcases decode_any (turned s j b) with ⟨HT, _⟩ | ⟨k', sv', g', se', n', t', hs', hm', HT, _⟩
    · exact once_none_in s j b hj hb0 k sv g se n t HD HE HT w
    · refine once_other_in s j b hj hb0 k sv g se n t HD HE k' sv' g' se' n' t' (decide_eq_false ?_) HT w
      rintro ⟨r1, r2, r3, r4, r5, rfl⟩
      obtain rfl : k' = k := by omega
      obtain rfl : sv' = sv := by omega
      obtain rfl : g' = g := by omega
      obtain rfl : se' = se := by omega
      obtain rfl : n' = n := by omega
      exact hne (hs'.trans hs.symm)

set_option maxRecDepth 100000 in
theorem lifted (os : Os) (started : os.Started) (H : Type) (enc : TypeId × Value → H) :
    ReturnsInHanded {} Try.checked os 6 .any (Rows.entryOnceSpec.pre6 enc Try.prog Try.f6 Rows.entryOnceRow.domain false) (Rows.entryOnceSpec.post enc Try.prog Try.f6 false true false false) := by
  refine returnsInHanded_of_change_sized (C := Try.checked) own started (by kernel_rfl) Try.func6
    (ChangeSpec.witness6 (enc := enc) (C := Try.checked) false ⟨#[], #[.string ByteArray.empty, .int .i64 0, .int .u8 0], []⟩ 8 (by kernel_rfl) (by kernel_rfl) (by kernel_rfl) (by kernel_rfl)) ?_
  intro W base args ds gs before hval0 hW hcnd hsz0 _
  have hval : ∀ (j : Nat) t v, Try.f6.params[j]? = some t → args[j]? = some v → Value.okWide Try.prog W .any base t v := hval0
  have hsz : (DataW.weightsEach Try.prog (Try.f6.params.toList ++ Rows.entryOnceSpec.plain.varTypes Try.prog) (ds ++ gs)).all (· ≤ reachBytes) = true := hsz0
  have hW' := hW
  obtain ⟨p, q, hA0, hV, rfl, hfz, hnd⟩ := hW
  have hA : DataW.TrodAll enc Try.prog W 0 (fun _ => true) true Try.f6.params.toList args.toList ds p := hA0
  rw [Try.params6] at hA hval hsz
  obtain ⟨v0, vs0, d0, ds0, p0, q0, hargs, rfl, rfl, h0, r0⟩ := trodAll_cons hA
  obtain ⟨v1, vs1, d1, ds1, p1, q1, rfl, rfl, rfl, h1, r1⟩ := trodAll_cons r0
  obtain ⟨v2, vs2, d2, ds2, p2, q2, rfl, rfl, rfl, h2, r2⟩ := trodAll_cons r1
  obtain ⟨rfl, rfl, rfl⟩ := trodAll_nil r2
  obtain rfl : args = #[v0, v1, v2] := by cases args; simp_all
  obtain ⟨rfl, rfl⟩ := trodVars_none hV
  obtain ⟨a0, rfl, rfl, rfl, w0⟩ := open_string Try.underlying9 (hval 0 9 v0 rfl rfl) h0
  have z0 : a0.size ≤ 140737488351232 := by
    have hz := sized_string hsz (j := 0) (t := 9) rfl rfl
    rw [length_bytes] at hz
    exact hz
  obtain ⟨a1, rfl, rfl, rfl, w1⟩ := open_int Try.underlying3 (hval 1 3 v1 rfl rfl) h1
  obtain ⟨a2, rfl, rfl, rfl, w2⟩ := open_int Try.underlying5 (hval 2 5 v2 rfl rfl) h2
  clear hA0 hval0 hsz0
  simp only [List.append_nil] at hW'
  refine (walk a0 z0 a1 w1 a2 w2 W).mono fun e W' ⟨he, bel⟩ => ?_
  subst he
  exact ⟨_, rfl, _, _, _, [], [], [], hW', trodAll_mk1 (shut_bool Try.underlying4 _), (trodAll_cons_mk (shut_string Try.underlying9 w0) (trodAll_cons_mk (shut_int Try.underlying3 w1) (trodAll_cons_mk (shut_int Try.underlying5 w2) trodAll_mk0))), rfl, bel.frame _, fun h => by cases h⟩

theorem over : Rows.entryOnceRow.holds Try.pinned (OpenSpec.ofChange Rows.entryOnceSpec) :=
  OpenClaim.holds_of_wide 6 Try.f6 rfl rfl rfl rfl rfl rfl rfl ⟨rfl, rfl, rfl, rfl, rfl⟩ rfl rfl rfl rfl rfl (by kernel_rfl) Try.func6 (by kernel_rfl)
    (of_decide_eq_true (by kernel_rfl)) (by unfold Func.isWrapper; first | (rw [if_pos (by decide +kernel)]; kernel_rfl) | (rw [if_neg (by decide +kernel)]; exact ⟨rfl, rfl⟩))
    (fun os started H enc _ => lifted os started H enc)

end Go.Proofs.Ytokkjnlccgmpiaa.entryOnce
namespace Go.Proofs.Ytokkjnlccgmpiaa

theorem entryOnce_holds : Rows.EntryOnceSaid := entryOnce.over
#print axioms entryOnce_holds

end Go.Proofs.Ytokkjnlccgmpiaa
