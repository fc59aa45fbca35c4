/-
  An entry that may be has 28 bytes and is decoded as it was, and unlike ones have unlike bytes: the law EntryBack returns true for every input.
  No condition beyond the form's own.
-/
import Derived.Test.YtokkjnlccgmpiaaRows
import Derived.Test.YtokkjnlccgmpiaaEntFx
import Derived.Test.YtokkjnlccgmpiaaEntIn
import Derived.WalkKit
import Derived.ProofKit
import Derived.OpenShut
import Derived.ShutString
import Derived.SizedLaws
import Derived.ChangeOld
import Derived.Below
namespace Go.Proofs.Ytokkjnlccgmpiaa.entryBack
open Go.Sort Go.ChangeShapes Go.WideShapes Go.ChangeAt Go.RowKit
open Go.ChangeMaps (open_string shut_string)
set_option linter.unusedVariables false

theorem own : ownKnob Try.prog.godebug = none := by kernel_rfl
theorem length_bytes (s : ByteArray) : s.data.toList.length = s.size := by rw [Array.length_toList]; rfl

set_option maxHeartbeats 1000000 in
theorem back_no (k sv g : Int) (se n : Nat) (t : ByteArray) (k' sv' g' : Int) (se' n' : Nat) (t' : ByteArray) (HA : ∀ w, Calls Try.prog 8 #[.agg #[.int .i64 k, .int .i64 sv, .int .i64 g, .int .u64 (se : Int), .int .u64 (n : Int), .string t]] w fun e w' => e = .returned (.tuple #[.string ⟨#[]⟩, .int .i64 30]) ∧ Below w.heap.size w w') (s' : ByteArray) (c' : Int) (HB : ∀ w, Calls Try.prog 8 #[.agg #[.int .i64 k', .int .i64 sv', .int .i64 g', .int .u64 (se' : Int), .int .u64 (n' : Int), .string t']] w fun e w' => e = .returned (.tuple #[.string s', .int .i64 c']) ∧ Below w.heap.size w w') (w : World) :
    Calls Try.prog 5 #[.agg #[.int .i64 k, .int .i64 sv, .int .i64 g, .int .u64 (se : Int), .int .u64 (n : Int), .string t], .agg #[.int .i64 k', .int .i64 sv', .int .i64 g', .int .u64 (se' : Int), .int .u64 (n' : Int), .string t']] w fun e w' => e = .returned (.bool true) ∧ Below w.heap.size w w' := by
  go_enter Try.func5, Try.ntmps5
  go_wp2_with fail
  have b0 := below_box w (.cells #[.int .i64 k, .int .i64 sv, .int .i64 g, .int .u64 (se : Int), .int .u64 (n : Int), .string t] 24)
  have b1 := below_box (w.alloc (.cells #[.int .i64 k, .int .i64 sv, .int .i64 g, .int .u64 (se : Int), .int .u64 (n : Int), .string t] 24)) (.cells #[.int .i64 k', .int .i64 sv', .int .i64 g', .int .u64 (se' : Int), .int .u64 (n' : Int), .string t'] 24)
  have y0 := ent_box (w.alloc (.cells #[.int .i64 k, .int .i64 sv, .int .i64 g, .int .u64 (se : Int), .int .u64 (n : Int), .string t] 24)) k' sv' g' se' n' t' 24
  have x0 := (ent_box w k sv g se n t 24).below (by simp) b1
  have z1 : (w.alloc (.cells #[.int .i64 k, .int .i64 sv, .int .i64 g, .int .u64 (se : Int), .int .u64 (n : Int), .string t] 24)).heap.size = w.heap.size + 1 := by simp
  have z2 : ((w.alloc (.cells #[.int .i64 k, .int .i64 sv, .int .i64 g, .int .u64 (se : Int), .int .u64 (n : Int), .string t] 24)).alloc (.cells #[.int .i64 k', .int .i64 sv', .int .i64 g', .int .u64 (se' : Int), .int .u64 (n' : Int), .string t'] 24)).heap.size = w.heap.size + 2 := by simp
  have hw0 := b0.trans (b1.mono b0.size)
  rw [z1] at y0
  refine (HA _).mono ?_
  rintro e w1 ⟨rfl, hb1⟩
  have x1 := x0.below (by rw [z2]; omega) hb1
  have y1 := y0.below (by rw [z2]; omega) hb1
  have hw1 := hw0.trans (hb1.mono (by rw [z2]; omega))
  have hl1 : w.heap.size + 2 ≤ w1.heap.size := by have h := hb1.size; rw [z2] at h; exact h
  clear hb1 x0 y0 b0 b1 hw0 z1 z2
  obtain ⟨d0, d1, d2, d3, d4, d5⟩ := id y1
  go_wp2_with fail
  refine (HB _).mono ?_
  rintro e w2 ⟨rfl, hb2⟩
  have x2 := x1.below (by omega) hb2
  have y2 := y1.below (by omega) hb2
  have hw2 := hw1.trans (hb2.mono (by omega))
  have hl2 : w.heap.size + 2 ≤ w2.heap.size := Nat.le_trans hl1 hb2.size
  clear hb2 x1 y1 hw1 hl1 d0 d1 d2 d3 d4 d5
  go_wp2_with fail
  refine (fixed_any _).mono ?_
  rintro e w3 ⟨rfl, hb3⟩
  have x3 := x2.below (by omega) hb3
  have y3 := y2.below (by omega) hb3
  have hw3 := hw2.trans (hb3.mono (by omega))
  have hl3 : w.heap.size + 2 ≤ w3.heap.size := Nat.le_trans hl2 hb3.size
  clear hb3 x2 y2 hw2 hl2
  go_wp2_with fail
  refine (fixed_any _).mono ?_
  rintro e w4 ⟨rfl, hb4⟩
  go_wp2_with fail
  go_ret
  exact ⟨rfl, hw3.trans (hb4.mono (by omega))⟩

set_option maxHeartbeats 1000000 in
theorem back_other (k sv g : Int) (se n : Nat) (t : ByteArray) (k' sv' g' : Int) (se' n' : Nat) (t' : ByteArray) (s : ByteArray) (hs : s.size = 28) (HA : ∀ w, Calls Try.prog 8 #[.agg #[.int .i64 k, .int .i64 sv, .int .i64 g, .int .u64 (se : Int), .int .u64 (n : Int), .string t]] w fun e w' => e = .returned (.tuple #[.string s, .int .i64 0]) ∧ Below w.heap.size w w')
    (DA : ∀ w, Calls Try.prog 15 #[.string s] w fun e w' => e = .returned (.tuple #[.agg #[.int .i64 k, .int .i64 sv, .int .i64 g, .int .u64 (se : Int), .int .u64 (n : Int), .string t], .int .i64 0]) ∧ Below w.heap.size w w')
    (s' : ByteArray) (HB : ∀ w, Calls Try.prog 8 #[.agg #[.int .i64 k', .int .i64 sv', .int .i64 g', .int .u64 (se' : Int), .int .u64 (n' : Int), .string t']] w fun e w' => e = .returned (.tuple #[.string s', .int .i64 30]) ∧ Below w.heap.size w w') (w : World) :
    Calls Try.prog 5 #[.agg #[.int .i64 k, .int .i64 sv, .int .i64 g, .int .u64 (se : Int), .int .u64 (n : Int), .string t], .agg #[.int .i64 k', .int .i64 sv', .int .i64 g', .int .u64 (se' : Int), .int .u64 (n' : Int), .string t']] w fun e w' => e = .returned (.bool true) ∧ Below w.heap.size w w' := by
  have keq := eql_ent k sv g se n t k sv g se n t true (by simp)
  have hlen : ((s.size : Int) == 28) = true := by rw [hs]; rfl
  clear hs
  go_enter Try.func5, Try.ntmps5
  go_wp2_with fail
  have b0 := below_box w (.cells #[.int .i64 k, .int .i64 sv, .int .i64 g, .int .u64 (se : Int), .int .u64 (n : Int), .string t] 24)
  have b1 := below_box (w.alloc (.cells #[.int .i64 k, .int .i64 sv, .int .i64 g, .int .u64 (se : Int), .int .u64 (n : Int), .string t] 24)) (.cells #[.int .i64 k', .int .i64 sv', .int .i64 g', .int .u64 (se' : Int), .int .u64 (n' : Int), .string t'] 24)
  have y0 := ent_box (w.alloc (.cells #[.int .i64 k, .int .i64 sv, .int .i64 g, .int .u64 (se : Int), .int .u64 (n : Int), .string t] 24)) k' sv' g' se' n' t' 24
  have x0 := (ent_box w k sv g se n t 24).below (by simp) b1
  have z1 : (w.alloc (.cells #[.int .i64 k, .int .i64 sv, .int .i64 g, .int .u64 (se : Int), .int .u64 (n : Int), .string t] 24)).heap.size = w.heap.size + 1 := by simp
  have z2 : ((w.alloc (.cells #[.int .i64 k, .int .i64 sv, .int .i64 g, .int .u64 (se : Int), .int .u64 (n : Int), .string t] 24)).alloc (.cells #[.int .i64 k', .int .i64 sv', .int .i64 g', .int .u64 (se' : Int), .int .u64 (n' : Int), .string t'] 24)).heap.size = w.heap.size + 2 := by simp
  have hw0 := b0.trans (b1.mono b0.size)
  rw [z1] at y0
  refine (HA _).mono ?_
  rintro e w1 ⟨rfl, hb1⟩
  have x1 := x0.below (by rw [z2]; omega) hb1
  have y1 := y0.below (by rw [z2]; omega) hb1
  have hw1 := hw0.trans (hb1.mono (by rw [z2]; omega))
  have hl1 : w.heap.size + 2 ≤ w1.heap.size := by have h := hb1.size; rw [z2] at h; exact h
  clear hb1 x0 y0 b0 b1 hw0 z1 z2
  obtain ⟨d0, d1, d2, d3, d4, d5⟩ := id y1
  go_wp2_with fail
  refine (HB _).mono ?_
  rintro e w2 ⟨rfl, hb2⟩
  have x2 := x1.below (by omega) hb2
  have y2 := y1.below (by omega) hb2
  have hw2 := hw1.trans (hb2.mono (by omega))
  have hl2 : w.heap.size + 2 ≤ w2.heap.size := Nat.le_trans hl1 hb2.size
  clear hb2 x1 y1 hw1 hl1 d0 d1 d2 d3 d4 d5
  go_wp2_with fail
  refine (fixed_any _).mono ?_
  rintro e w3 ⟨rfl, hb3⟩
  have x3 := x2.below (by omega) hb3
  have y3 := y2.below (by omega) hb3
  have hw3 := hw2.trans (hb3.mono (by omega))
  have hl3 : w.heap.size + 2 ≤ w3.heap.size := Nat.le_trans hl2 hb3.size
  clear hb3 x2 y2 hw2 hl2
  go_wp2_with fail
  refine (DA _).mono ?_
  rintro e w4 ⟨rfl, hb4⟩
  have x4 := x3.below (by omega) hb4
  have hw4 := hw3.trans (hb4.mono (by omega))
  have hl4 : w.heap.size + 2 ≤ w4.heap.size := Nat.le_trans hl3 hb4.size
  clear hb4 x3 y3 hw3 hl3
  obtain ⟨c0, c1, c2, c3, c4, c5⟩ := id x4
  have hl5 : w.heap.size < w4.heap.size := by omega
  go_wp2_with fail
  go_ret
  exact ⟨rfl, hw4.trans ((below_box _ _).mono (by omega))⟩

set_option maxHeartbeats 1000000 in
theorem back_both (k sv g : Int) (se n : Nat) (t : ByteArray) (k' sv' g' : Int) (se' n' : Nat) (t' : ByteArray) (s : ByteArray) (hs : s.size = 28) (HA : ∀ w, Calls Try.prog 8 #[.agg #[.int .i64 k, .int .i64 sv, .int .i64 g, .int .u64 (se : Int), .int .u64 (n : Int), .string t]] w fun e w' => e = .returned (.tuple #[.string s, .int .i64 0]) ∧ Below w.heap.size w w')
    (DA : ∀ w, Calls Try.prog 15 #[.string s] w fun e w' => e = .returned (.tuple #[.agg #[.int .i64 k, .int .i64 sv, .int .i64 g, .int .u64 (se : Int), .int .u64 (n : Int), .string t], .int .i64 0]) ∧ Below w.heap.size w w')
    (s' : ByteArray) (HB : ∀ w, Calls Try.prog 8 #[.agg #[.int .i64 k', .int .i64 sv', .int .i64 g', .int .u64 (se' : Int), .int .u64 (n' : Int), .string t']] w fun e w' => e = .returned (.tuple #[.string s', .int .i64 0]) ∧ Below w.heap.size w w')
    (b : Bool) (kb : decide (k = k' ∧ sv = sv' ∧ g = g' ∧ (se : Int) = (se' : Int) ∧ (n : Int) = (n' : Int) ∧ t = t') = b) (hst : (s.toList == s'.toList) = b) (w : World) :
    Calls Try.prog 5 #[.agg #[.int .i64 k, .int .i64 sv, .int .i64 g, .int .u64 (se : Int), .int .u64 (n : Int), .string t], .agg #[.int .i64 k', .int .i64 sv', .int .i64 g', .int .u64 (se' : Int), .int .u64 (n' : Int), .string t']] w fun e w' => e = .returned (.bool true) ∧ Below w.heap.size w w' := by
  have keq := eql_ent k sv g se n t k sv g se n t true (by simp)
  have keb := eql_ent k sv g se n t k' sv' g' se' n' t' b kb
  clear kb
  have hlen : ((s.size : Int) == 28) = true := by rw [hs]; rfl
  clear hs
  go_enter Try.func5, Try.ntmps5
  go_wp2_with fail
  have b0 := below_box w (.cells #[.int .i64 k, .int .i64 sv, .int .i64 g, .int .u64 (se : Int), .int .u64 (n : Int), .string t] 24)
  have b1 := below_box (w.alloc (.cells #[.int .i64 k, .int .i64 sv, .int .i64 g, .int .u64 (se : Int), .int .u64 (n : Int), .string t] 24)) (.cells #[.int .i64 k', .int .i64 sv', .int .i64 g', .int .u64 (se' : Int), .int .u64 (n' : Int), .string t'] 24)
  have y0 := ent_box (w.alloc (.cells #[.int .i64 k, .int .i64 sv, .int .i64 g, .int .u64 (se : Int), .int .u64 (n : Int), .string t] 24)) k' sv' g' se' n' t' 24
  have x0 := (ent_box w k sv g se n t 24).below (by simp) b1
  have z1 : (w.alloc (.cells #[.int .i64 k, .int .i64 sv, .int .i64 g, .int .u64 (se : Int), .int .u64 (n : Int), .string t] 24)).heap.size = w.heap.size + 1 := by simp
  have z2 : ((w.alloc (.cells #[.int .i64 k, .int .i64 sv, .int .i64 g, .int .u64 (se : Int), .int .u64 (n : Int), .string t] 24)).alloc (.cells #[.int .i64 k', .int .i64 sv', .int .i64 g', .int .u64 (se' : Int), .int .u64 (n' : Int), .string t'] 24)).heap.size = w.heap.size + 2 := by simp
  have hw0 := b0.trans (b1.mono b0.size)
  rw [z1] at y0
  refine (HA _).mono ?_
  rintro e w1 ⟨rfl, hb1⟩
  have x1 := x0.below (by rw [z2]; omega) hb1
  have y1 := y0.below (by rw [z2]; omega) hb1
  have hw1 := hw0.trans (hb1.mono (by rw [z2]; omega))
  have hl1 : w.heap.size + 2 ≤ w1.heap.size := by have h := hb1.size; rw [z2] at h; exact h
  clear hb1 x0 y0 b0 b1 hw0 z1 z2
  obtain ⟨d0, d1, d2, d3, d4, d5⟩ := id y1
  go_wp2_with fail
  refine (HB _).mono ?_
  rintro e w2 ⟨rfl, hb2⟩
  have x2 := x1.below (by omega) hb2
  have y2 := y1.below (by omega) hb2
  have hw2 := hw1.trans (hb2.mono (by omega))
  have hl2 : w.heap.size + 2 ≤ w2.heap.size := Nat.le_trans hl1 hb2.size
  clear hb2 x1 y1 hw1 hl1 d0 d1 d2 d3 d4 d5
  go_wp2_with fail
  refine (fixed_any _).mono ?_
  rintro e w3 ⟨rfl, hb3⟩
  have x3 := x2.below (by omega) hb3
  have y3 := y2.below (by omega) hb3
  have hw3 := hw2.trans (hb3.mono (by omega))
  have hl3 : w.heap.size + 2 ≤ w3.heap.size := Nat.le_trans hl2 hb3.size
  clear hb3 x2 y2 hw2 hl2
  go_wp2_with fail
  refine (DA _).mono ?_
  rintro e w4 ⟨rfl, hb4⟩
  have x4 := x3.below (by omega) hb4
  have y4 := y3.below (by omega) hb4
  have hw4 := hw3.trans (hb4.mono (by omega))
  have hl4 : w.heap.size + 2 ≤ w4.heap.size := Nat.le_trans hl3 hb4.size
  clear hb4 x3 y3 hw3 hl3
  obtain ⟨c0, c1, c2, c3, c4, c5⟩ := id x4
  obtain ⟨d0, d1, d2, d3, d4, d5⟩ := id y4
  have hl5 : w.heap.size < w4.heap.size := by omega
  have hl6 : w.heap.size + 1 < w4.heap.size := by omega
  go_wp2_with fail
  go_ret
  exact ⟨rfl, hw4.trans ((below_box _ _).mono (by omega))⟩

theorem may_bytes {k sv g : Int} {se n : Nat} {t : ByteArray} (hm : Ent.may k sv g se n t = true) : ∃ s : ByteArray, s.size = 28 ∧
    (∀ w, Calls Try.prog 8 #[.agg #[.int .i64 k, .int .i64 sv, .int .i64 g, .int .u64 (se : Int), .int .u64 (n : Int), .string t]] w fun e w' => e = .returned (.tuple #[.string s, .int .i64 0]) ∧ Below w.heap.size w w') ∧
    (∀ w, Calls Try.prog 15 #[.string s] w fun e w' => e = .returned (.tuple #[.agg #[.int .i64 k, .int .i64 sv, .int .i64 g, .int .u64 (se : Int), .int .u64 (n : Int), .string t], .int .i64 0]) ∧ Below w.heap.size w w') ∧
    (∀ (k' sv' g' : Int) (se' n' : Nat) (t' : ByteArray), Ent.may k' sv' g' se' n' t' = true → ∃ s' : ByteArray, 
      (∀ w, Calls Try.prog 8 #[.agg #[.int .i64 k', .int .i64 sv', .int .i64 g', .int .u64 (se' : Int), .int .u64 (n' : Int), .string t']] w fun e w' => e = .returned (.tuple #[.string s', .int .i64 0]) ∧ Below w.heap.size w w') ∧
      (s = s' ↔ (k = k' ∧ sv = sv' ∧ g = g' ∧ (se : Int) = (se' : Int) ∧ (n : Int) = (n' : Int) ∧ t = t'))) := by
  obtain ⟨a, b, c, rfl, rfl, rfl, h1, h2, h3, h4, h5, h6⟩ := Ent.may_nats hm
  refine ⟨_, Ent.bytes_size a b c se n t, fun w => encode_ok a b c se n t hm h1 h2 h3 h6 w, fun w => decode_back a b c se n t hm h1 h2 h3 h4 h5 h6 w, ?_⟩
  intro k' sv' g' se' n' t' hm'
  obtain ⟨a', b', c', rfl, rfl, rfl, h1', h2', h3', h4', h5', h6'⟩ := Ent.may_nats hm'
  refine ⟨_, fun w => encode_ok a' b' c' se' n' t' hm' h1' h2' h3' h6' w, ?_, ?_⟩
  · intro h
    obtain ⟨e1, e2, e3, e4, e5, e6⟩ := Ent.bytes_inj h1 h2 h3 h4 h5 h6 h1' h2' h3' h4' h5' h6' h
    exact ⟨by omega, by omega, by omega, by omega, by omega, e6⟩
  · rintro ⟨e1, e2, e3, e4, e5, rfl⟩
    obtain rfl : a = a' := by omega
    obtain rfl : b = b' := by omega
    obtain rfl : c = c' := by omega
    obtain rfl : se = se' := by omega
    obtain rfl : n = n' := by omega
    rfl

theorem walk_nat (k sv g : Int) (se n : Nat) (t : ByteArray) (k' sv' g' : Int) (se' n' : Nat) (t' : ByteArray) (w : World) :
    Calls Try.prog 5 #[.agg #[.int .i64 k, .int .i64 sv, .int .i64 g, .int .u64 (se : Int), .int .u64 (n : Int), .string t], .agg #[.int .i64 k', .int .i64 sv', .int .i64 g', .int .u64 (se' : Int), .int .u64 (n' : Int), .string t']] w fun e w' => e = .returned (.bool true) ∧ Below w.heap.size w w' := by
  cases hm : Ent.may k sv g se n t
  · obtain ⟨s', c', hB, _⟩ := encode_same k' sv' g' se' n' t'
    exact back_no k sv g se n t k' sv' g' se' n' t' (fun w => encode_no k sv g se n t hm w) s' c' hB w
  · obtain ⟨s, hs, hA, hD, hrest⟩ := may_bytes hm
    cases hm' : Ent.may k' sv' g' se' n' t'
    · exact back_other k sv g se n t k' sv' g' se' n' t' s hs hA hD _ (fun w => encode_no k' sv' g' se' n' t' hm' w) w
    · obtain ⟨s', hB, hiff⟩ := hrest k' sv' g' se' n' t' hm'
      refine back_both k sv g se n t k' sv' g' se' n' t' s hs hA hD s' hB _ rfl ?_ w
      by_cases h : s = s'
      · rw [bytes_eq h, decide_eq_true (hiff.1 h)]
      · rw [bytes_ne h, decide_eq_false (fun e => h (hiff.2 e))]

theorem walk (k sv g se0 n0 : Int) (t : ByteArray) (hse : (Lit.int .u64 se0).wf = true) (hn : (Lit.int .u64 n0).wf = true) (_ht : t.size ≤ 140737488351232)
    (k' sv' g' se0' n0' : Int) (t' : ByteArray) (hse' : (Lit.int .u64 se0').wf = true) (hn' : (Lit.int .u64 n0').wf = true) (_ht' : t'.size ≤ 140737488351232) (w : World) :
    Calls Try.prog 5 #[.agg #[.int .i64 k, .int .i64 sv, .int .i64 g, .int .u64 se0, .int .u64 n0, .string t], .agg #[.int .i64 k', .int .i64 sv', .int .i64 g', .int .u64 se0', .int .u64 n0', .string t']] w fun e w' => e = .returned (.bool true) ∧ Below w.heap.size w w' := by
  obtain ⟨a, rfl, _⟩ := u64_nat hse
  obtain ⟨b, rfl, _⟩ := u64_nat hn
  obtain ⟨a', rfl, _⟩ := u64_nat hse'
  obtain ⟨b', rfl, _⟩ := u64_nat hn'
  exact walk_nat k sv g a b t k' sv' g' a' b' t' w

set_option maxRecDepth 100000 in
theorem lifted (os : Os) (started : os.Started) (H : Type) (enc : TypeId × Value → H) :
    ReturnsInHanded {} Try.checked os 5 .any (Rows.entryBackSpec.pre6 enc Try.prog Try.f5 Rows.entryBackRow.domain false) (Rows.entryBackSpec.post enc Try.prog Try.f5 false true false false) := by
  refine returnsInHanded_of_change_sized (C := Try.checked) own started (by kernel_rfl) Try.func5
    (ChangeSpec.witness6 (enc := enc) (C := Try.checked) false ⟨#[], #[.agg #[.int .i64 0, .int .i64 0, .int .i64 0, .int .u64 0, .int .u64 0, .string ByteArray.empty], .agg #[.int .i64 0, .int .i64 0, .int .i64 0, .int .u64 0, .int .u64 0, .string ByteArray.empty]], []⟩ 8 (by kernel_rfl) (by kernel_rfl) (by kernel_rfl) (by kernel_rfl)) ?_
  intro W base args ds gs before hval0 hW hcnd hsz0 _
  have hval : ∀ (j : Nat) t v, Try.f5.params[j]? = some t → args[j]? = some v → Value.okWide Try.prog W .any base t v := hval0
  have hsz : (DataW.weightsEach Try.prog (Try.f5.params.toList ++ Rows.entryBackSpec.plain.varTypes Try.prog) (ds ++ gs)).all (· ≤ reachBytes) = true := hsz0
  have hW' := hW
  obtain ⟨p, q, hA0, hV, rfl, hfz, hnd⟩ := hW
  have hA : DataW.TrodAll enc Try.prog W 0 (fun _ => true) true Try.f5.params.toList args.toList ds p := hA0
  rw [Try.params5] at hA hval hsz
  obtain ⟨v0, vs0, d0, ds0, p0, q0, hargs, rfl, rfl, h0, r0⟩ := trodAll_cons hA
  obtain ⟨v1, vs1, d1, ds1, p1, q1, rfl, rfl, rfl, h1, r1⟩ := trodAll_cons r0
  obtain ⟨rfl, rfl, rfl⟩ := trodAll_nil r1
  obtain rfl : args = #[v0, v1] := by cases args; simp_all
  obtain ⟨rfl, rfl⟩ := trodVars_none hV
  obtain ⟨ek0, ev0, eg0, es0, en0, et0, rfl, rfl, rfl, wk0, wv0, wg0, ws0, wn0, wt0⟩ := open_ent (hval 0 24 v0 rfl rfl) h0
  have z0 : et0.size ≤ 140737488351232 := by
    have hz := sized_ent hsz (j := 0) rfl rfl
    rw [length_bytes] at hz
    exact hz
  obtain ⟨ek1, ev1, eg1, es1, en1, et1, rfl, rfl, rfl, wk1, wv1, wg1, ws1, wn1, wt1⟩ := open_ent (hval 1 24 v1 rfl rfl) h1
  have z1 : et1.size ≤ 140737488351232 := by
    have hz := sized_ent hsz (j := 1) rfl rfl
    rw [length_bytes] at hz
    exact hz
  clear hA0 hval0 hsz0
  simp only [List.append_nil] at hW'
  refine (walk ek0 ev0 eg0 es0 en0 et0 ws0 wn0 z0 ek1 ev1 eg1 es1 en1 et1 ws1 wn1 z1 W).mono fun e W' ⟨he, bel⟩ => ?_
  subst he
  exact ⟨_, rfl, _, _, _, [], [], [], hW', trodAll_mk1 (shut_bool Try.underlying4 _), (trodAll_cons_mk (shut_ent wk0 wv0 wg0 ws0 wn0 wt0) (trodAll_cons_mk (shut_ent wk1 wv1 wg1 ws1 wn1 wt1) trodAll_mk0)), rfl, bel.frame _, fun h => by cases h⟩

theorem over : Rows.entryBackRow.holds Try.pinned (OpenSpec.ofChange Rows.entryBackSpec) :=
  OpenClaim.holds_of_wide 5 Try.f5 rfl rfl rfl rfl rfl rfl rfl ⟨rfl, rfl, rfl, rfl, rfl⟩ rfl rfl rfl rfl rfl (by kernel_rfl) Try.func5 (by kernel_rfl)
    (of_decide_eq_true (by kernel_rfl)) (by unfold Func.isWrapper; first | (rw [if_pos (by decide +kernel)]; kernel_rfl) | (rw [if_neg (by decide +kernel)]; exact ⟨rfl, rfl⟩))
    (fun os started H enc _ => lifted os started H enc)

end Go.Proofs.Ytokkjnlccgmpiaa.entryBack
namespace Go.Proofs.Ytokkjnlccgmpiaa

theorem entryBack_holds : Rows.EntryBackSaid := entryBack.over
#print axioms entryBack_holds

end Go.Proofs.Ytokkjnlccgmpiaa
