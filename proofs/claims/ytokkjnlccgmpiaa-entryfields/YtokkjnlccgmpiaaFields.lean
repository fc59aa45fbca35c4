/-
  Two entries that differ in their texts alone differ in the bytes from the tenth on alone, in their numbers alone in the sixth to the ninth: the law EntryFields returns true for every input.
  No condition beyond the form's own.
-/
import Derived.Test.YtokkjnlccgmpiaaRows
import Derived.Test.YtokkjnlccgmpiaaEntFl
import Derived.Test.YtokkjnlccgmpiaaEntIn
import Derived.WalkKit
import Derived.Deep.CutRange
import Derived.Deep.QuietTactic
import Derived.BigQuiet
import Derived.ProofKit
import Derived.OpenShut
import Derived.ShutString
import Derived.SizedLaws
import Derived.ChangeOld
import Derived.Below
namespace Go.Proofs.Ytokkjnlccgmpiaa.entryFields
open Go.Sort Go.ChangeShapes Go.WideShapes Go.ChangeAt Go.RowKit
open Go.ChangeMaps (open_string shut_string)
set_option linter.unusedVariables false

theorem own : ownKnob Try.prog.godebug = none := by kernel_rfl
theorem length_bytes (s : ByteArray) : s.data.toList.length = s.size := by rw [Array.length_toList]; rfl

set_option maxHeartbeats 1000000 in
theorem fields_no (k sv g : Int) (se n m : Nat) (t x : ByteArray) (HA : ∀ w, Calls Try.prog 8 #[.agg #[.int .i64 k, .int .i64 sv, .int .i64 g, .int .u64 (se : Int), .int .u64 (n : Int), .string t]] w fun e w' => e = .returned (.tuple #[.string ⟨#[]⟩, .int .i64 30]) ∧ Below w.heap.size w w') (s1 s2 : ByteArray) (q1 q2 : Int) (HF : ∀ w, Calls Try.prog 8 #[.agg #[.int .i64 k, .int .i64 sv, .int .i64 g, .int .u64 (se : Int), .int .u64 (n : Int), .string x]] w fun e w' => e = .returned (.tuple #[.string s1, .int .i64 q1]) ∧ Below w.heap.size w w') (HG : ∀ w, Calls Try.prog 8 #[.agg #[.int .i64 k, .int .i64 sv, .int .i64 g, .int .u64 (se : Int), .int .u64 (m : Int), .string t]] w fun e w' => e = .returned (.tuple #[.string s2, .int .i64 q2]) ∧ Below w.heap.size w w') (w : World) :
    Calls Try.prog 7 #[.agg #[.int .i64 k, .int .i64 sv, .int .i64 g, .int .u64 (se : Int), .int .u64 (n : Int), .string t], .string x, .int .u64 (m : Int)] w fun e w' => e = .returned (.bool true) ∧ Below w.heap.size w w' := by
  go_enter Try.func7, Try.ntmps7
  go_upto_region 1 with fail
  go_cut [7, 8] from 15 to 16 (fun pf pg wx => Pair w.heap.size k sv g se n t w pf pg wx)
  case first =>
    go_region
    all_goals go_wp2_with fail
    all_goals go_meet
    all_goals first | exact trio w k sv g se n t 24 true | exact trio w k sv g se n t 24 false
  case rest =>
  obtain ⟨F, G, rfl, rfl, hFG, hBF, hBG, hF, hG, eF, eG, fF, fG, eB, hb⟩ := hcut
  obtain ⟨y1, y2, y3⟩ := text_set (x := x) (m := (m : Int)) hFG hBF hBG eF eG eB
  have hb1 : Below w.heap.size w ((wc.setCell ⟨F, 5, none⟩ (.string x)).setCell ⟨G, 4, none⟩ (.int .u64 (m : Int))) := (hb.setCell (Nat.le_of_lt hBF) _).setCell (Nat.le_of_lt hBG) _
  have hz : ((wc.setCell ⟨F, 5, none⟩ (.string x)).setCell ⟨G, 4, none⟩ (.int .u64 (m : Int))).heap.size = wc.heap.size := by simp
  obtain ⟨a0, a1, a2, a3, a4, a5⟩ := eF
  obtain ⟨b0, b1, b2, b3, b4, b5⟩ := eG
  obtain ⟨c0, c1, c2, c3, c4, c5⟩ := eB
  obtain ⟨f0, f1, f2, f3, f4, f5⟩ := fF
  obtain ⟨g0, g1, g2, g3, g4, g5⟩ := fG
  have n1 : ¬ F = G := hFG
  have n2 : ¬ G = F := fun e => hFG e.symm
  have n3 : ¬ w.heap.size = F := by omega
  have n4 : ¬ w.heap.size = G := by omega
  have n5 : ¬ F = w.heap.size := by omega
  have n6 : ¬ G = w.heap.size := by omega
  go_wp2_with fail
  generalize (wc.setCell ⟨F, 5, none⟩ (.string x)).setCell ⟨G, 4, none⟩ (.int .u64 (m : Int)) = w0 at y1 y2 y3 hb1 hz ⊢
  rw [← hz] at hF hG
  clear hb hz a0 a1 a2 a3 a4 a5 b0 b1 b2 b3 b4 b5 c0 c1 c2 c3 c4 c5 f0 f1 f2 f3 f4 f5 g0 g1 g2 g3 g4 g5 n1 n2 n3 n4 n5 n6 hFG y3
  refine (HA _).mono ?_
  rintro e w1 ⟨rfl, hb2⟩
  have u1 := y1.below hF hb2
  have u2 := y2.below hG hb2
  have hw1 := hb1.trans (hb2.mono hb1.size)
  have hF1 := Nat.lt_of_lt_of_le hF hb2.size
  have hG1 := Nat.lt_of_lt_of_le hG hb2.size
  clear hb2 y1 y2 hb1 hF hG
  obtain ⟨a0, a1, a2, a3, a4, a5⟩ := id u1
  go_wp2_with fail
  refine (HF _).mono ?_
  rintro e w2 ⟨rfl, hb3⟩
  have v2 := u2.below hG1 hb3
  have hw2 := hw1.trans (hb3.mono hw1.size)
  clear hb3 u1 u2 hw1 hF1 hG1 a0 a1 a2 a3 a4 a5
  obtain ⟨b0, b1, b2, b3, b4, b5⟩ := v2
  go_wp2_with fail
  refine (HG _).mono ?_
  rintro e w3 ⟨rfl, hb4⟩
  have hw3 := hw2.trans (hb4.mono hw2.size)
  clear hb4 hw2 b0 b1 b2 b3 b4 b5
  go_wp2_with fail
  refine (fixed_any _).mono ?_
  rintro e w4 ⟨rfl, hb5⟩
  have hw4 := hw3.trans (hb5.mono hw3.size)
  clear hb5 hw3
  go_wp2_with fail
  refine (fixed_any _).mono ?_
  rintro e w5 ⟨rfl, hb6⟩
  go_wp2_with fail
  go_ret
  exact ⟨rfl, hw4.trans (hb6.mono hw4.size)⟩

set_option maxHeartbeats 1000000 in
theorem fields_00 (k sv g : Int) (se n m : Nat) (t x : ByteArray) (s s1 s2 : ByteArray) (z : s.size = 28) (HA : ∀ w, Calls Try.prog 8 #[.agg #[.int .i64 k, .int .i64 sv, .int .i64 g, .int .u64 (se : Int), .int .u64 (n : Int), .string t]] w fun e w' => e = .returned (.tuple #[.string s, .int .i64 0]) ∧ Below w.heap.size w w')
    (HF : ∀ w, Calls Try.prog 8 #[.agg #[.int .i64 k, .int .i64 sv, .int .i64 g, .int .u64 (se : Int), .int .u64 (n : Int), .string x]] w fun e w' => e = .returned (.tuple #[.string s1, .int .i64 30]) ∧ Below w.heap.size w w')
    (HG : ∀ w, Calls Try.prog 8 #[.agg #[.int .i64 k, .int .i64 sv, .int .i64 g, .int .u64 (se : Int), .int .u64 (m : Int), .string t]] w fun e w' => e = .returned (.tuple #[.string s2, .int .i64 30]) ∧ Below w.heap.size w w') (w : World) :
    Calls Try.prog 7 #[.agg #[.int .i64 k, .int .i64 sv, .int .i64 g, .int .u64 (se : Int), .int .u64 (n : Int), .string t], .string x, .int .u64 (m : Int)] w fun e w' => e = .returned (.bool true) ∧ Below w.heap.size w w' := by
  go_enter Try.func7, Try.ntmps7
  go_upto_region 1 with fail
  go_cut [7, 8] from 15 to 16 (fun pf pg wx => Pair w.heap.size k sv g se n t w pf pg wx)
  case first =>
    go_region
    all_goals go_wp2_with fail
    all_goals go_meet
    all_goals first | exact trio w k sv g se n t 24 true | exact trio w k sv g se n t 24 false
  case rest =>
  obtain ⟨F, G, rfl, rfl, hFG, hBF, hBG, hF, hG, eF, eG, fF, fG, eB, hb⟩ := hcut
  obtain ⟨y1, y2, y3⟩ := text_set (x := x) (m := (m : Int)) hFG hBF hBG eF eG eB
  have hb1 : Below w.heap.size w ((wc.setCell ⟨F, 5, none⟩ (.string x)).setCell ⟨G, 4, none⟩ (.int .u64 (m : Int))) := (hb.setCell (Nat.le_of_lt hBF) _).setCell (Nat.le_of_lt hBG) _
  have hz : ((wc.setCell ⟨F, 5, none⟩ (.string x)).setCell ⟨G, 4, none⟩ (.int .u64 (m : Int))).heap.size = wc.heap.size := by simp
  obtain ⟨a0, a1, a2, a3, a4, a5⟩ := eF
  obtain ⟨b0, b1, b2, b3, b4, b5⟩ := eG
  obtain ⟨c0, c1, c2, c3, c4, c5⟩ := eB
  obtain ⟨f0, f1, f2, f3, f4, f5⟩ := fF
  obtain ⟨g0, g1, g2, g3, g4, g5⟩ := fG
  have n1 : ¬ F = G := hFG
  have n2 : ¬ G = F := fun e => hFG e.symm
  have n3 : ¬ w.heap.size = F := by omega
  have n4 : ¬ w.heap.size = G := by omega
  have n5 : ¬ F = w.heap.size := by omega
  have n6 : ¬ G = w.heap.size := by omega
  go_wp2_with fail
  generalize (wc.setCell ⟨F, 5, none⟩ (.string x)).setCell ⟨G, 4, none⟩ (.int .u64 (m : Int)) = w0 at y1 y2 y3 hb1 hz ⊢
  rw [← hz] at hF hG
  clear hb hz a0 a1 a2 a3 a4 a5 b0 b1 b2 b3 b4 b5 c0 c1 c2 c3 c4 c5 f0 f1 f2 f3 f4 f5 g0 g1 g2 g3 g4 g5 n1 n2 n3 n4 n5 n6 hFG y3
  refine (HA _).mono ?_
  rintro e w1 ⟨rfl, hb2⟩
  have u1 := y1.below hF hb2
  have u2 := y2.below hG hb2
  have hw1 := hb1.trans (hb2.mono hb1.size)
  have hF1 := Nat.lt_of_lt_of_le hF hb2.size
  have hG1 := Nat.lt_of_lt_of_le hG hb2.size
  clear hb2 y1 y2 hb1 hF hG
  obtain ⟨a0, a1, a2, a3, a4, a5⟩ := id u1
  go_wp2_with fail
  refine (HF _).mono ?_
  rintro e w2 ⟨rfl, hb3⟩
  have v2 := u2.below hG1 hb3
  have hw2 := hw1.trans (hb3.mono hw1.size)
  clear hb3 u1 u2 hw1 hF1 hG1 a0 a1 a2 a3 a4 a5
  obtain ⟨b0, b1, b2, b3, b4, b5⟩ := v2
  go_wp2_with fail
  refine (HG _).mono ?_
  rintro e w3 ⟨rfl, hb4⟩
  have hw3 := hw2.trans (hb4.mono hw2.size)
  clear hb4 hw2 b0 b1 b2 b3 b4 b5
  go_wp2_with fail
  refine (fixed_any _).mono ?_
  rintro e w4 ⟨rfl, hb5⟩
  have hw4 := hw3.trans (hb5.mono hw3.size)
  clear hb5 hw3
  go_wp2_with fail
  go_quiet (fail)
  have hd : Below w4.heap.size w4 (w4.drewN nq) := below_draws _ _ _
  generalize w4.drewN nq = w5 at hd ⊢
  have hw5 := hw4.trans (hd.mono hw4.size)
  clear hd hw4
  go_wp2_with fail
  go_quiet (fail)
  have hd : Below w5.heap.size w5 (w5.drewN nq) := below_draws _ _ _
  generalize w5.drewN nq = w6 at hd ⊢
  go_wp2_with fail
  go_ret
  exact ⟨rfl, hw5.trans (hd.mono hw5.size)⟩

set_option maxHeartbeats 1000000 in
theorem fields_01 (k sv g : Int) (se n m : Nat) (t x : ByteArray) (s s1 s2 : ByteArray) (z : s.size = 28) (HA : ∀ w, Calls Try.prog 8 #[.agg #[.int .i64 k, .int .i64 sv, .int .i64 g, .int .u64 (se : Int), .int .u64 (n : Int), .string t]] w fun e w' => e = .returned (.tuple #[.string s, .int .i64 0]) ∧ Below w.heap.size w w')
    (HF : ∀ w, Calls Try.prog 8 #[.agg #[.int .i64 k, .int .i64 sv, .int .i64 g, .int .u64 (se : Int), .int .u64 (n : Int), .string x]] w fun e w' => e = .returned (.tuple #[.string s1, .int .i64 30]) ∧ Below w.heap.size w w')
    (HG : ∀ w, Calls Try.prog 8 #[.agg #[.int .i64 k, .int .i64 sv, .int .i64 g, .int .u64 (se : Int), .int .u64 (m : Int), .string t]] w fun e w' => e = .returned (.tuple #[.string s2, .int .i64 0]) ∧ Below w.heap.size w w')
    (z2 : s2.size = 28) (h2 : ((s.extract 0 5).toList == (s2.extract 0 5).toList) = true) (h3 : ((s.extract 9 28).toList == (s2.extract 9 28).toList) = true) (w : World) :
    Calls Try.prog 7 #[.agg #[.int .i64 k, .int .i64 sv, .int .i64 g, .int .u64 (se : Int), .int .u64 (n : Int), .string t], .string x, .int .u64 (m : Int)] w fun e w' => e = .returned (.bool true) ∧ Below w.heap.size w w' := by
  go_enter Try.func7, Try.ntmps7
  go_upto_region 1 with fail
  go_cut [7, 8] from 15 to 16 (fun pf pg wx => Pair w.heap.size k sv g se n t w pf pg wx)
  case first =>
    go_region
    all_goals go_wp2_with fail
    all_goals go_meet
    all_goals first | exact trio w k sv g se n t 24 true | exact trio w k sv g se n t 24 false
  case rest =>
  obtain ⟨F, G, rfl, rfl, hFG, hBF, hBG, hF, hG, eF, eG, fF, fG, eB, hb⟩ := hcut
  obtain ⟨y1, y2, y3⟩ := text_set (x := x) (m := (m : Int)) hFG hBF hBG eF eG eB
  have hb1 : Below w.heap.size w ((wc.setCell ⟨F, 5, none⟩ (.string x)).setCell ⟨G, 4, none⟩ (.int .u64 (m : Int))) := (hb.setCell (Nat.le_of_lt hBF) _).setCell (Nat.le_of_lt hBG) _
  have hz : ((wc.setCell ⟨F, 5, none⟩ (.string x)).setCell ⟨G, 4, none⟩ (.int .u64 (m : Int))).heap.size = wc.heap.size := by simp
  obtain ⟨a0, a1, a2, a3, a4, a5⟩ := eF
  obtain ⟨b0, b1, b2, b3, b4, b5⟩ := eG
  obtain ⟨c0, c1, c2, c3, c4, c5⟩ := eB
  obtain ⟨f0, f1, f2, f3, f4, f5⟩ := fF
  obtain ⟨g0, g1, g2, g3, g4, g5⟩ := fG
  have n1 : ¬ F = G := hFG
  have n2 : ¬ G = F := fun e => hFG e.symm
  have n3 : ¬ w.heap.size = F := by omega
  have n4 : ¬ w.heap.size = G := by omega
  have n5 : ¬ F = w.heap.size := by omega
  have n6 : ¬ G = w.heap.size := by omega
  go_wp2_with fail
  generalize (wc.setCell ⟨F, 5, none⟩ (.string x)).setCell ⟨G, 4, none⟩ (.int .u64 (m : Int)) = w0 at y1 y2 y3 hb1 hz ⊢
  rw [← hz] at hF hG
  clear hb hz a0 a1 a2 a3 a4 a5 b0 b1 b2 b3 b4 b5 c0 c1 c2 c3 c4 c5 f0 f1 f2 f3 f4 f5 g0 g1 g2 g3 g4 g5 n1 n2 n3 n4 n5 n6 hFG y3
  refine (HA _).mono ?_
  rintro e w1 ⟨rfl, hb2⟩
  have u1 := y1.below hF hb2
  have u2 := y2.below hG hb2
  have hw1 := hb1.trans (hb2.mono hb1.size)
  have hF1 := Nat.lt_of_lt_of_le hF hb2.size
  have hG1 := Nat.lt_of_lt_of_le hG hb2.size
  clear hb2 y1 y2 hb1 hF hG
  obtain ⟨a0, a1, a2, a3, a4, a5⟩ := id u1
  go_wp2_with fail
  refine (HF _).mono ?_
  rintro e w2 ⟨rfl, hb3⟩
  have v2 := u2.below hG1 hb3
  have hw2 := hw1.trans (hb3.mono hw1.size)
  clear hb3 u1 u2 hw1 hF1 hG1 a0 a1 a2 a3 a4 a5
  obtain ⟨b0, b1, b2, b3, b4, b5⟩ := v2
  go_wp2_with fail
  refine (HG _).mono ?_
  rintro e w3 ⟨rfl, hb4⟩
  have hw3 := hw2.trans (hb4.mono hw2.size)
  clear hb4 hw2 b0 b1 b2 b3 b4 b5
  go_wp2_with fail
  refine (fixed_any _).mono ?_
  rintro e w4 ⟨rfl, hb5⟩
  have hw4 := hw3.trans (hb5.mono hw3.size)
  clear hb5 hw3
  go_wp2_with fail
  go_quiet (fail)
  have hd : Below w4.heap.size w4 (w4.drewN nq) := below_draws _ _ _
  generalize w4.drewN nq = w5 at hd ⊢
  have hw5 := hw4.trans (hd.mono hw4.size)
  clear hd hw4
  go_wp2_with fail
  go_quiet (fail)
  have hd : Below w5.heap.size w5 (w5.drewN nq) := below_draws _ _ _
  generalize w5.drewN nq = w6 at hd ⊢
  go_wp2_with fail
  go_ret
  exact ⟨rfl, hw5.trans (hd.mono hw5.size)⟩

set_option maxHeartbeats 1000000 in
theorem fields_10 (k sv g : Int) (se n m : Nat) (t x : ByteArray) (s s1 s2 : ByteArray) (z : s.size = 28) (HA : ∀ w, Calls Try.prog 8 #[.agg #[.int .i64 k, .int .i64 sv, .int .i64 g, .int .u64 (se : Int), .int .u64 (n : Int), .string t]] w fun e w' => e = .returned (.tuple #[.string s, .int .i64 0]) ∧ Below w.heap.size w w')
    (HF : ∀ w, Calls Try.prog 8 #[.agg #[.int .i64 k, .int .i64 sv, .int .i64 g, .int .u64 (se : Int), .int .u64 (n : Int), .string x]] w fun e w' => e = .returned (.tuple #[.string s1, .int .i64 0]) ∧ Below w.heap.size w w')
    (HG : ∀ w, Calls Try.prog 8 #[.agg #[.int .i64 k, .int .i64 sv, .int .i64 g, .int .u64 (se : Int), .int .u64 (m : Int), .string t]] w fun e w' => e = .returned (.tuple #[.string s2, .int .i64 30]) ∧ Below w.heap.size w w')
    (z1 : s1.size = 28) (h1 : ((s.extract 0 9).toList == (s1.extract 0 9).toList) = true) (w : World) :
    Calls Try.prog 7 #[.agg #[.int .i64 k, .int .i64 sv, .int .i64 g, .int .u64 (se : Int), .int .u64 (n : Int), .string t], .string x, .int .u64 (m : Int)] w fun e w' => e = .returned (.bool true) ∧ Below w.heap.size w w' := by
  go_enter Try.func7, Try.ntmps7
  go_upto_region 1 with fail
  go_cut [7, 8] from 15 to 16 (fun pf pg wx => Pair w.heap.size k sv g se n t w pf pg wx)
  case first =>
    go_region
    all_goals go_wp2_with fail
    all_goals go_meet
    all_goals first | exact trio w k sv g se n t 24 true | exact trio w k sv g se n t 24 false
  case rest =>
  obtain ⟨F, G, rfl, rfl, hFG, hBF, hBG, hF, hG, eF, eG, fF, fG, eB, hb⟩ := hcut
  obtain ⟨y1, y2, y3⟩ := text_set (x := x) (m := (m : Int)) hFG hBF hBG eF eG eB
  have hb1 : Below w.heap.size w ((wc.setCell ⟨F, 5, none⟩ (.string x)).setCell ⟨G, 4, none⟩ (.int .u64 (m : Int))) := (hb.setCell (Nat.le_of_lt hBF) _).setCell (Nat.le_of_lt hBG) _
  have hz : ((wc.setCell ⟨F, 5, none⟩ (.string x)).setCell ⟨G, 4, none⟩ (.int .u64 (m : Int))).heap.size = wc.heap.size := by simp
  obtain ⟨a0, a1, a2, a3, a4, a5⟩ := eF
  obtain ⟨b0, b1, b2, b3, b4, b5⟩ := eG
  obtain ⟨c0, c1, c2, c3, c4, c5⟩ := eB
  obtain ⟨f0, f1, f2, f3, f4, f5⟩ := fF
  obtain ⟨g0, g1, g2, g3, g4, g5⟩ := fG
  have n1 : ¬ F = G := hFG
  have n2 : ¬ G = F := fun e => hFG e.symm
  have n3 : ¬ w.heap.size = F := by omega
  have n4 : ¬ w.heap.size = G := by omega
  have n5 : ¬ F = w.heap.size := by omega
  have n6 : ¬ G = w.heap.size := by omega
  go_wp2_with fail
  generalize (wc.setCell ⟨F, 5, none⟩ (.string x)).setCell ⟨G, 4, none⟩ (.int .u64 (m : Int)) = w0 at y1 y2 y3 hb1 hz ⊢
  rw [← hz] at hF hG
  clear hb hz a0 a1 a2 a3 a4 a5 b0 b1 b2 b3 b4 b5 c0 c1 c2 c3 c4 c5 f0 f1 f2 f3 f4 f5 g0 g1 g2 g3 g4 g5 n1 n2 n3 n4 n5 n6 hFG y3
  refine (HA _).mono ?_
  rintro e w1 ⟨rfl, hb2⟩
  have u1 := y1.below hF hb2
  have u2 := y2.below hG hb2
  have hw1 := hb1.trans (hb2.mono hb1.size)
  have hF1 := Nat.lt_of_lt_of_le hF hb2.size
  have hG1 := Nat.lt_of_lt_of_le hG hb2.size
  clear hb2 y1 y2 hb1 hF hG
  obtain ⟨a0, a1, a2, a3, a4, a5⟩ := id u1
  go_wp2_with fail
  refine (HF _).mono ?_
  rintro e w2 ⟨rfl, hb3⟩
  have v2 := u2.below hG1 hb3
  have hw2 := hw1.trans (hb3.mono hw1.size)
  clear hb3 u1 u2 hw1 hF1 hG1 a0 a1 a2 a3 a4 a5
  obtain ⟨b0, b1, b2, b3, b4, b5⟩ := v2
  go_wp2_with fail
  refine (HG _).mono ?_
  rintro e w3 ⟨rfl, hb4⟩
  have hw3 := hw2.trans (hb4.mono hw2.size)
  clear hb4 hw2 b0 b1 b2 b3 b4 b5
  go_wp2_with fail
  refine (fixed_any _).mono ?_
  rintro e w4 ⟨rfl, hb5⟩
  have hw4 := hw3.trans (hb5.mono hw3.size)
  clear hb5 hw3
  go_wp2_with fail
  go_quiet (fail)
  have hd : Below w4.heap.size w4 (w4.drewN nq) := below_draws _ _ _
  generalize w4.drewN nq = w5 at hd ⊢
  have hw5 := hw4.trans (hd.mono hw4.size)
  clear hd hw4
  go_wp2_with fail
  go_quiet (fail)
  have hd : Below w5.heap.size w5 (w5.drewN nq) := below_draws _ _ _
  generalize w5.drewN nq = w6 at hd ⊢
  go_wp2_with fail
  go_ret
  exact ⟨rfl, hw5.trans (hd.mono hw5.size)⟩

set_option maxHeartbeats 1000000 in
theorem fields_11 (k sv g : Int) (se n m : Nat) (t x : ByteArray) (s s1 s2 : ByteArray) (z : s.size = 28) (HA : ∀ w, Calls Try.prog 8 #[.agg #[.int .i64 k, .int .i64 sv, .int .i64 g, .int .u64 (se : Int), .int .u64 (n : Int), .string t]] w fun e w' => e = .returned (.tuple #[.string s, .int .i64 0]) ∧ Below w.heap.size w w')
    (HF : ∀ w, Calls Try.prog 8 #[.agg #[.int .i64 k, .int .i64 sv, .int .i64 g, .int .u64 (se : Int), .int .u64 (n : Int), .string x]] w fun e w' => e = .returned (.tuple #[.string s1, .int .i64 0]) ∧ Below w.heap.size w w')
    (HG : ∀ w, Calls Try.prog 8 #[.agg #[.int .i64 k, .int .i64 sv, .int .i64 g, .int .u64 (se : Int), .int .u64 (m : Int), .string t]] w fun e w' => e = .returned (.tuple #[.string s2, .int .i64 0]) ∧ Below w.heap.size w w')
    (z1 : s1.size = 28) (h1 : ((s.extract 0 9).toList == (s1.extract 0 9).toList) = true)
    (z2 : s2.size = 28) (h2 : ((s.extract 0 5).toList == (s2.extract 0 5).toList) = true) (h3 : ((s.extract 9 28).toList == (s2.extract 9 28).toList) = true) (w : World) :
    Calls Try.prog 7 #[.agg #[.int .i64 k, .int .i64 sv, .int .i64 g, .int .u64 (se : Int), .int .u64 (n : Int), .string t], .string x, .int .u64 (m : Int)] w fun e w' => e = .returned (.bool true) ∧ Below w.heap.size w w' := by
  go_enter Try.func7, Try.ntmps7
  go_upto_region 1 with fail
  go_cut [7, 8] from 15 to 16 (fun pf pg wx => Pair w.heap.size k sv g se n t w pf pg wx)
  case first =>
    go_region
    all_goals go_wp2_with fail
    all_goals go_meet
    all_goals first | exact trio w k sv g se n t 24 true | exact trio w k sv g se n t 24 false
  case rest =>
  obtain ⟨F, G, rfl, rfl, hFG, hBF, hBG, hF, hG, eF, eG, fF, fG, eB, hb⟩ := hcut
  obtain ⟨y1, y2, y3⟩ := text_set (x := x) (m := (m : Int)) hFG hBF hBG eF eG eB
  have hb1 : Below w.heap.size w ((wc.setCell ⟨F, 5, none⟩ (.string x)).setCell ⟨G, 4, none⟩ (.int .u64 (m : Int))) := (hb.setCell (Nat.le_of_lt hBF) _).setCell (Nat.le_of_lt hBG) _
  have hz : ((wc.setCell ⟨F, 5, none⟩ (.string x)).setCell ⟨G, 4, none⟩ (.int .u64 (m : Int))).heap.size = wc.heap.size := by simp
  obtain ⟨a0, a1, a2, a3, a4, a5⟩ := eF
  obtain ⟨b0, b1, b2, b3, b4, b5⟩ := eG
  obtain ⟨c0, c1, c2, c3, c4, c5⟩ := eB
  obtain ⟨f0, f1, f2, f3, f4, f5⟩ := fF
  obtain ⟨g0, g1, g2, g3, g4, g5⟩ := fG
  have n1 : ¬ F = G := hFG
  have n2 : ¬ G = F := fun e => hFG e.symm
  have n3 : ¬ w.heap.size = F := by omega
  have n4 : ¬ w.heap.size = G := by omega
  have n5 : ¬ F = w.heap.size := by omega
  have n6 : ¬ G = w.heap.size := by omega
  go_wp2_with fail
  generalize (wc.setCell ⟨F, 5, none⟩ (.string x)).setCell ⟨G, 4, none⟩ (.int .u64 (m : Int)) = w0 at y1 y2 y3 hb1 hz ⊢
  rw [← hz] at hF hG
  clear hb hz a0 a1 a2 a3 a4 a5 b0 b1 b2 b3 b4 b5 c0 c1 c2 c3 c4 c5 f0 f1 f2 f3 f4 f5 g0 g1 g2 g3 g4 g5 n1 n2 n3 n4 n5 n6 hFG y3
  refine (HA _).mono ?_
  rintro e w1 ⟨rfl, hb2⟩
  have u1 := y1.below hF hb2
  have u2 := y2.below hG hb2
  have hw1 := hb1.trans (hb2.mono hb1.size)
  have hF1 := Nat.lt_of_lt_of_le hF hb2.size
  have hG1 := Nat.lt_of_lt_of_le hG hb2.size
  clear hb2 y1 y2 hb1 hF hG
  obtain ⟨a0, a1, a2, a3, a4, a5⟩ := id u1
  go_wp2_with fail
  refine (HF _).mono ?_
  rintro e w2 ⟨rfl, hb3⟩
  have v2 := u2.below hG1 hb3
  have hw2 := hw1.trans (hb3.mono hw1.size)
  clear hb3 u1 u2 hw1 hF1 hG1 a0 a1 a2 a3 a4 a5
  obtain ⟨b0, b1, b2, b3, b4, b5⟩ := v2
  go_wp2_with fail
  refine (HG _).mono ?_
  rintro e w3 ⟨rfl, hb4⟩
  have hw3 := hw2.trans (hb4.mono hw2.size)
  clear hb4 hw2 b0 b1 b2 b3 b4 b5
  go_wp2_with fail
  refine (fixed_any _).mono ?_
  rintro e w4 ⟨rfl, hb5⟩
  have hw4 := hw3.trans (hb5.mono hw3.size)
  clear hb5 hw3
  go_wp2_with fail
  go_quiet (fail)
  have hd : Below w4.heap.size w4 (w4.drewN nq) := below_draws _ _ _
  generalize w4.drewN nq = w5 at hd ⊢
  have hw5 := hw4.trans (hd.mono hw4.size)
  clear hd hw4
  go_wp2_with fail
  go_quiet (fail)
  have hd : Below w5.heap.size w5 (w5.drewN nq) := below_draws _ _ _
  generalize w5.drewN nq = w6 at hd ⊢
  go_wp2_with fail
  go_ret
  exact ⟨rfl, hw5.trans (hd.mono hw5.size)⟩

theorem enc_of {k sv g : Int} {a b c : Nat} (hk : k = (a : Int)) (hv : sv = (b : Int)) (hg : g = (c : Int)) {se n : Nat} {t : ByteArray} (hm : Ent.may k sv g se n t = true) :
    ∀ w, Calls Try.prog 8 #[.agg #[.int .i64 k, .int .i64 sv, .int .i64 g, .int .u64 (se : Int), .int .u64 (n : Int), .string t]] w fun e w' => e = .returned (.tuple #[.string (Ent.bytes a b c se n t), .int .i64 0]) ∧ Below w.heap.size w w' := by
  obtain ⟨a', b', c', e1, e2, e3, h1, h2, h3, h4, h5, h6⟩ := Ent.may_nats hm
  obtain rfl : a' = a := by omega
  obtain rfl : b' = b := by omega
  obtain rfl : c' = c := by omega
  subst hk hv hg
  exact fun w => encode_ok a' b' c' se n t hm h1 h2 h3 h6 w

theorem walk_nat (k sv g : Int) (se n m : Nat) (t x : ByteArray) (w : World) :
    Calls Try.prog 7 #[.agg #[.int .i64 k, .int .i64 sv, .int .i64 g, .int .u64 (se : Int), .int .u64 (n : Int), .string t], .string x, .int .u64 (m : Int)] w fun e w' => e = .returned (.bool true) ∧ Below w.heap.size w w' := by
  cases hm : Ent.may k sv g se n t
  · obtain ⟨s1, q1, h1, _⟩ := encode_same k sv g se n x
    obtain ⟨s2, q2, h2, _⟩ := encode_same k sv g se m t
    exact fields_no k sv g se n m t x (fun w => encode_no k sv g se n t hm w) s1 s2 q1 q2 h1 h2 w
  · obtain ⟨a, b, c, e1, e2, e3, _⟩ := Ent.may_nats hm
    have hA := enc_of e1 e2 e3 hm
    cases hx : Ent.may k sv g se n x
    · cases hg : Ent.may k sv g se m t
      · exact fields_00 k sv g se n m t x _ _ _ (Ent.bytes_size _ _ _ _ _ _) hA (fun w => encode_no k sv g se n x hx w) (fun w => encode_no k sv g se m t hg w) w
      · exact fields_01 k sv g se n m t x _ _ _ (Ent.bytes_size _ _ _ _ _ _) hA (fun w => encode_no k sv g se n x hx w) (enc_of e1 e2 e3 hg) (Ent.bytes_size _ _ _ _ _ _) (bytes_eq (Ent.front_5 _ _ _ _ _ _ _)) (bytes_eq (Ent.behind_9 _ _ _ _ _ _ _)) w
    · cases hg : Ent.may k sv g se m t
      · exact fields_10 k sv g se n m t x _ _ _ (Ent.bytes_size _ _ _ _ _ _) hA (enc_of e1 e2 e3 hx) (fun w => encode_no k sv g se m t hg w) (Ent.bytes_size _ _ _ _ _ _) (bytes_eq (Ent.front_9 _ _ _ _ _ _ _)) w
      · exact fields_11 k sv g se n m t x _ _ _ (Ent.bytes_size _ _ _ _ _ _) hA (enc_of e1 e2 e3 hx) (enc_of e1 e2 e3 hg) (Ent.bytes_size _ _ _ _ _ _) (bytes_eq (Ent.front_9 _ _ _ _ _ _ _)) (Ent.bytes_size _ _ _ _ _ _) (bytes_eq (Ent.front_5 _ _ _ _ _ _ _)) (bytes_eq (Ent.behind_9 _ _ _ _ _ _ _)) w

theorem walk (k sv g se0 n0 : Int) (t : ByteArray) (hse : (Lit.int .u64 se0).wf = true) (hn : (Lit.int .u64 n0).wf = true) (_ht : t.size ≤ 140737488351232) (x : ByteArray) (_hx : x.size ≤ 140737488351232) (m0 : Int) (hm : (Lit.int .u64 m0).wf = true) (w : World) :
    Calls Try.prog 7 #[.agg #[.int .i64 k, .int .i64 sv, .int .i64 g, .int .u64 se0, .int .u64 n0, .string t], .string x, .int .u64 m0] w fun e w' => e = .returned (.bool true) ∧ Below w.heap.size w w' := by
  obtain ⟨a, rfl, _⟩ := u64_nat hse
  obtain ⟨b, rfl, _⟩ := u64_nat hn
  obtain ⟨c, rfl, _⟩ := u64_nat hm
  exact walk_nat k sv g a b c t x w

set_option maxRecDepth 100000 in
theorem lifted (os : Os) (started : os.Started) (H : Type) (enc : TypeId × Value → H) :
    ReturnsInHanded {} Try.checked os 7 .any (Rows.entryFieldsSpec.pre6 enc Try.prog Try.f7 Rows.entryFieldsRow.domain false) (Rows.entryFieldsSpec.post enc Try.prog Try.f7 false true false false) := by
  refine returnsInHanded_of_change_sized (C := Try.checked) own started (by kernel_rfl) Try.func7
    (ChangeSpec.witness6 (enc := enc) (C := Try.checked) false ⟨#[], #[.agg #[.int .i64 0, .int .i64 0, .int .i64 0, .int .u64 0, .int .u64 0, .string ByteArray.empty], .string ByteArray.empty, .int .u64 0], []⟩ 8 (by kernel_rfl) (by kernel_rfl) (by kernel_rfl) (by kernel_rfl)) ?_
  intro W base args ds gs before hval0 hW hcnd hsz0 _
  have hval : ∀ (j : Nat) t v, Try.f7.params[j]? = some t → args[j]? = some v → Value.okWide Try.prog W .any base t v := hval0
  have hsz : (DataW.weightsEach Try.prog (Try.f7.params.toList ++ Rows.entryFieldsSpec.plain.varTypes Try.prog) (ds ++ gs)).all (· ≤ reachBytes) = true := hsz0
  have hW' := hW
  obtain ⟨p, q, hA0, hV, rfl, hfz, hnd⟩ := hW
  have hA : DataW.TrodAll enc Try.prog W 0 (fun _ => true) true Try.f7.params.toList args.toList ds p := hA0
  rw [Try.params7] at hA hval hsz
  obtain ⟨v0, vs0, d0, ds0, p0, q0, hargs, rfl, rfl, h0, r0⟩ := trodAll_cons hA
  obtain ⟨v1, vs1, d1, ds1, p1, q1, rfl, rfl, rfl, h1, r1⟩ := trodAll_cons r0
  obtain ⟨v2, vs2, d2, ds2, p2, q2, rfl, rfl, rfl, h2, r2⟩ := trodAll_cons r1
  obtain ⟨rfl, rfl, rfl⟩ := trodAll_nil r2
  obtain rfl : args = #[v0, v1, v2] := by cases args; simp_all
  obtain ⟨rfl, rfl⟩ := trodVars_none hV
  obtain ⟨ek0, ev0, eg0, es0, en0, et0, rfl, rfl, rfl, wk0, wv0, wg0, ws0, wn0, wt0⟩ := open_ent (hval 0 24 v0 rfl rfl) h0
  have z0 : et0.size ≤ 140737488351232 := by
    have hz := sized_ent hsz (j := 0) rfl rfl
    rw [length_bytes] at hz
    exact hz
  obtain ⟨a1, rfl, rfl, rfl, w1⟩ := open_string Try.underlying9 (hval 1 9 v1 rfl rfl) h1
  have z1 : a1.size ≤ 140737488351232 := by
    have hz := sized_string hsz (j := 1) (t := 9) rfl rfl
    rw [length_bytes] at hz
    exact hz
  obtain ⟨a2, rfl, rfl, rfl, w2⟩ := open_int Try.underlying22 (hval 2 22 v2 rfl rfl) h2
  clear hA0 hval0 hsz0
  simp only [List.append_nil] at hW'
  refine (walk ek0 ev0 eg0 es0 en0 et0 ws0 wn0 z0 a1 z1 a2 w2 W).mono fun e W' ⟨he, bel⟩ => ?_
  subst he
  exact ⟨_, rfl, _, _, _, [], [], [], hW', trodAll_mk1 (shut_bool Try.underlying4 _), (trodAll_cons_mk (shut_ent wk0 wv0 wg0 ws0 wn0 wt0) (trodAll_cons_mk (shut_string Try.underlying9 w1) (trodAll_cons_mk (shut_int Try.underlying22 w2) trodAll_mk0))), rfl, bel.frame _, fun h => by cases h⟩

theorem over : Rows.entryFieldsRow.holds Try.pinned (OpenSpec.ofChange Rows.entryFieldsSpec) :=
  OpenClaim.holds_of_wide 7 Try.f7 rfl rfl rfl rfl rfl rfl rfl ⟨rfl, rfl, rfl, rfl, rfl⟩ rfl rfl rfl rfl rfl (by kernel_rfl) Try.func7 (by kernel_rfl)
    (of_decide_eq_true (by kernel_rfl)) (by unfold Func.isWrapper; first | (rw [if_pos (by decide +kernel)]; kernel_rfl) | (rw [if_neg (by decide +kernel)]; exact ⟨rfl, rfl⟩))
    (fun os started H enc _ => lifted os started H enc)

end Go.Proofs.Ytokkjnlccgmpiaa.entryFields
namespace Go.Proofs.Ytokkjnlccgmpiaa

theorem entryFields_holds : Rows.EntryFieldsSaid := entryFields.over
#print axioms entryFields_holds

end Go.Proofs.Ytokkjnlccgmpiaa
