/-
  Whether any entry may be, and its bytes, is as the document says: the law EntryEncodes returns true for every input.
  No condition beyond the form's own.
-/
import Derived.Test.YtokkjnlccgmpiaaRows
import Derived.Test.YtokkjnlccgmpiaaEntFx
import Derived.Test.YtokkjnlccgmpiaaEntIn
import Derived.WalkKit
import Derived.ProofKit
import Derived.OpenShut
import Derived.ShutString
import Derived.SizedLaws
import Derived.ChangeOld
import Derived.Below
namespace Go.Proofs.Ytokkjnlccgmpiaa.entryEncodes
open Go.Sort Go.ChangeShapes Go.WideShapes Go.ChangeAt Go.RowKit
open Go.ChangeMaps (open_string shut_string)
set_option linter.unusedVariables false

theorem own : ownKnob Try.prog.godebug = none := by kernel_rfl
theorem length_bytes (s : ByteArray) : s.data.toList.length = s.size := by rw [Array.length_toList]; rfl

set_option maxHeartbeats 1000000 in
theorem encodes (k sv g : Int) (se n : Nat) (t : ByteArray) (w : World) :
    Calls Try.prog 3 #[.agg #[.int .i64 k, .int .i64 sv, .int .i64 g, .int .u64 (se : Int), .int .u64 (n : Int), .string t]] w fun e w' => e = .returned (.bool true) ∧ Below w.heap.size w w' := by
  obtain ⟨s, c, hE, hR⟩ := encode_same k sv g se n t
  obtain ⟨cc, hC, hD⟩ := check_same k sv g se n t
  obtain ⟨z, hM, hN⟩ := empty_same
  have hx : (s.toList == s.toList) = true := beq_self_eq_true _
  have hz : (z.toList == z.toList) = true := beq_self_eq_true _
  go_enter Try.func3, Try.ntmps3
  go_wp2_with fail
  refine (hE _).mono ?_
  rintro e w1 ⟨rfl, hb1⟩
  have x1 := ent_kept hb1
  have hw1 : Below w.heap.size w w1 := (below_box _ _).trans (hb1.mono (below_box _ _).size)
  have hl1 : w.heap.size < w1.heap.size := Nat.lt_of_lt_of_le (by simp) hb1.size
  clear hb1
  obtain ⟨c0, c1, c2, c3, c4, c5⟩ := id x1
  go_wp2_with fail
  refine (hR _).mono ?_
  rintro e w2 ⟨rfl, hb2⟩
  have x2 := x1.below hl1 hb2
  have hw2 := hw1.trans (hb2.mono (Nat.le_of_lt hl1))
  clear x1 c0 c1 c2 c3 c4 c5 hw1 hb2
  obtain ⟨k0, k1, k2, k3, k4, k5⟩ := x2
  have c0 : ∀ d os, (grow (redrawn w2 d) os).cell? ⟨w.heap.size, 0, none⟩ = some (.int .i64 k) := cell_regrown k0
  have c1 : ∀ d os, (grow (redrawn w2 d) os).cell? ⟨w.heap.size, 1, none⟩ = some (.int .i64 sv) := cell_regrown k1
  have c2 : ∀ d os, (grow (redrawn w2 d) os).cell? ⟨w.heap.size, 2, none⟩ = some (.int .i64 g) := cell_regrown k2
  have c3 : ∀ d os, (grow (redrawn w2 d) os).cell? ⟨w.heap.size, 3, none⟩ = some (.int .u64 (se : Int)) := cell_regrown k3
  have c4 : ∀ d os, (grow (redrawn w2 d) os).cell? ⟨w.heap.size, 4, none⟩ = some (.int .u64 (n : Int)) := cell_regrown k4
  have c5 : ∀ d os, (grow (redrawn w2 d) os).cell? ⟨w.heap.size, 5, none⟩ = some (.string t) := cell_regrown k5
  have p0 : ∀ d os, Calls Try.prog 10 #[] (grow (redrawn w2 d) os) fun e w'' => e = .returned (.bool true) ∧ ∃ p : Regrown, w'' = grow (redrawn w2 p.d) p.os := fun d os => Calls.regrown_of (fixed_any _)
  have p1 : ∀ d os, Calls Try.prog 11 #[.agg #[.int .i64 k, .int .i64 sv, .int .i64 g, .int .u64 (se : Int), .int .u64 (n : Int), .string t]] (grow (redrawn w2 d) os) fun e w'' => e = .returned (.int .i64 cc) ∧ ∃ p : Regrown, w'' = grow (redrawn w2 p.d) p.os := fun d os => Calls.regrown_of (hC _)
  have p2 : ∀ d os, Calls Try.prog 12 #[.agg #[.int .i64 k, .int .i64 sv, .int .i64 g, .int .u64 (se : Int), .int .u64 (n : Int), .string t]] (grow (redrawn w2 d) os) fun e w'' => e = .returned (.int .i64 cc) ∧ ∃ p : Regrown, w'' = grow (redrawn w2 p.d) p.os := fun d os => Calls.regrown_of (hD _)
  have p3 : ∀ d os, Calls Try.prog 13 #[] (grow (redrawn w2 d) os) fun e w'' => e = .returned (.string z) ∧ ∃ p : Regrown, w'' = grow (redrawn w2 p.d) p.os := fun d os => Calls.regrown_of (hM _)
  have p4 : ∀ d os, Calls Try.prog 14 #[.agg #[.int .i64 0, .int .i64 0, .int .i64 0, .int .u64 0, .int .u64 0, .string ⟨#[]⟩]] (grow (redrawn w2 d) os) fun e w'' => e = .returned (.string z) ∧ ∃ p : Regrown, w'' = grow (redrawn w2 p.d) p.os := fun d os => Calls.regrown_of (hN _)
  clear k0 k1 k2 k3 k4 k5 hC hD hM hN hE hR
  go_wp2_with fail
  refine wp_region_quiet_below (by kernel_rfl) (by kernel_rfl) ?_
  repeat (go_big_quiet_step (first | with_reducible exact p0 _ _ | with_reducible exact p1 _ _ | with_reducible exact p2 _ _ | with_reducible exact p3 _ _ | with_reducible exact p4 _ _))
  refine wpQuiet_nil ?_
  intro _ hw'
  obtain ⟨⟨dq, osq⟩, hw''⟩ := hw'
  subst hw''
  go_wp2_with fail
  go_ret
  exact ⟨rfl, hw2.trans ((below_regrown w2 dq osq).mono hw2.size)⟩

theorem walk (k sv g se n : Int) (t : ByteArray) (hse : (Lit.int .u64 se).wf = true) (hn : (Lit.int .u64 n).wf = true) (_ht : t.size ≤ 140737488351232) (w : World) :
    Calls Try.prog 3 #[.agg #[.int .i64 k, .int .i64 sv, .int .i64 g, .int .u64 se, .int .u64 n, .string t]] w fun e w' => e = .returned (.bool true) ∧ Below w.heap.size w w' := by
  obtain ⟨a, rfl, _⟩ := u64_nat hse
  obtain ⟨b, rfl, _⟩ := u64_nat hn
  exact encodes k sv g a b t w

set_option maxRecDepth 100000 in
theorem lifted (os : Os) (started : os.Started) (H : Type) (enc : TypeId × Value → H) :
    ReturnsInHanded {} Try.checked os 3 .any (Rows.entryEncodesSpec.pre6 enc Try.prog Try.f3 Rows.entryEncodesRow.domain false) (Rows.entryEncodesSpec.post enc Try.prog Try.f3 false true false false) := by
  refine returnsInHanded_of_change_sized (C := Try.checked) own started (by kernel_rfl) Try.func3
    (ChangeSpec.witness6 (enc := enc) (C := Try.checked) false ⟨#[], #[.agg #[.int .i64 0, .int .i64 0, .int .i64 0, .int .u64 0, .int .u64 0, .string ByteArray.empty]], []⟩ 8 (by kernel_rfl) (by kernel_rfl) (by kernel_rfl) (by kernel_rfl)) ?_
  intro W base args ds gs before hval0 hW hcnd hsz0 _
  have hval : ∀ (j : Nat) t v, Try.f3.params[j]? = some t → args[j]? = some v → Value.okWide Try.prog W .any base t v := hval0
  have hsz : (DataW.weightsEach Try.prog (Try.f3.params.toList ++ Rows.entryEncodesSpec.plain.varTypes Try.prog) (ds ++ gs)).all (· ≤ reachBytes) = true := hsz0
  have hW' := hW
  obtain ⟨p, q, hA0, hV, rfl, hfz, hnd⟩ := hW
  have hA : DataW.TrodAll enc Try.prog W 0 (fun _ => true) true Try.f3.params.toList args.toList ds p := hA0
  rw [Try.params3] at hA hval hsz
  obtain ⟨v0, vs0, d0, ds0, p0, q0, hargs, rfl, rfl, h0, r0⟩ := trodAll_cons hA
  obtain ⟨rfl, rfl, rfl⟩ := trodAll_nil r0
  obtain rfl : args = #[v0] := by cases args; simp_all
  obtain ⟨rfl, rfl⟩ := trodVars_none hV
  obtain ⟨ek0, ev0, eg0, es0, en0, et0, rfl, rfl, rfl, wk0, wv0, wg0, ws0, wn0, wt0⟩ := open_ent (hval 0 24 v0 rfl rfl) h0
  have z0 : et0.size ≤ 140737488351232 := by
    have hz := sized_ent hsz (j := 0) rfl rfl
    rw [length_bytes] at hz
    exact hz
  clear hA0 hval0 hsz0
  simp only [List.append_nil] at hW'
  refine (walk ek0 ev0 eg0 es0 en0 et0 ws0 wn0 z0 W).mono fun e W' ⟨he, bel⟩ => ?_
  subst he
  exact ⟨_, rfl, _, _, _, [], [], [], hW', trodAll_mk1 (shut_bool Try.underlying4 _), (trodAll_cons_mk (shut_ent wk0 wv0 wg0 ws0 wn0 wt0) trodAll_mk0), rfl, bel.frame _, fun h => by cases h⟩

theorem over : Rows.entryEncodesRow.holds Try.pinned (OpenSpec.ofChange Rows.entryEncodesSpec) :=
  OpenClaim.holds_of_wide 3 Try.f3 rfl rfl rfl rfl rfl rfl rfl ⟨rfl, rfl, rfl, rfl, rfl⟩ rfl rfl rfl rfl rfl (by kernel_rfl) Try.func3 (by kernel_rfl)
    (of_decide_eq_true (by kernel_rfl)) (by unfold Func.isWrapper; first | (rw [if_pos (by decide +kernel)]; kernel_rfl) | (rw [if_neg (by decide +kernel)]; exact ⟨rfl, rfl⟩))
    (fun os started H enc _ => lifted os started H enc)

end Go.Proofs.Ytokkjnlccgmpiaa.entryEncodes
namespace Go.Proofs.Ytokkjnlccgmpiaa

theorem entryEncodes_holds : Rows.EntryEncodesSaid := entryEncodes.over
#print axioms entryEncodes_holds

end Go.Proofs.Ytokkjnlccgmpiaa
