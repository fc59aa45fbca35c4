/-
  What entry any bytes are, or why they are none, is as the document says: the law EntryDecodes returns true for every input.
  No condition beyond the form's own.
-/
import Derived.Test.YtokkjnlccgmpiaaRows
import Derived.Test.YtokkjnlccgmpiaaEntFx
import Derived.WalkKit
import Derived.ProofKit
import Derived.OpenShut
import Derived.ShutString
import Derived.SizedLaws
import Derived.ChangeOld
import Derived.Below
namespace Go.Proofs.Ytokkjnlccgmpiaa.entryDecodes
open Go.ChangeShapes Go.WideShapes Go.ChangeAt Go.RowKit
open Go.ChangeMaps (open_string shut_string)
set_option linter.unusedVariables false

theorem own : ownKnob Try.prog.godebug = none := by kernel_rfl
theorem length_bytes (s : ByteArray) : s.data.toList.length = s.size := by rw [Array.length_toList]; rfl

set_option maxHeartbeats 1000000 in
theorem decodes (s : ByteArray) (k sv g se n : Int) (t : ByteArray) (c : Int)
    (D : ∀ w, Calls Try.prog 15 #[.string s] w fun e w' => e = .returned (.tuple #[.agg #[.int .i64 k, .int .i64 sv, .int .i64 g, .int .u64 se, .int .u64 n, .string t], .int .i64 c]) ∧ Below w.heap.size w w')
    (R : ∀ w, Calls Try.prog 16 #[.string s] w fun e w' => e = .returned (.tuple #[.agg #[.int .i64 k, .int .i64 sv, .int .i64 g, .int .u64 se, .int .u64 n, .string t], .int .i64 c]) ∧ Below w.heap.size w w') (w : World) :
    Calls Try.prog 4 #[.string s] w fun e w' => e = .returned (.bool true) ∧ Below w.heap.size w w' := by
  have keq := eql_ent k sv g se n t k sv g se n t true (by simp)
  go_enter Try.func4, Try.ntmps4
  go_wp2_with fail
  refine (D _).mono ?_
  rintro e w1 ⟨rfl, hb1⟩
  have a1 := below_box w1 (.cells #[.int .i64 k, .int .i64 sv, .int .i64 g, .int .u64 se, .int .u64 n, .string t] 24)
  go_wp2_with fail
  refine (R _).mono ?_
  rintro e w2 ⟨rfl, hb2⟩
  have x2 := ent_kept hb2
  have hw2 := hb1.trans ((a1.mono hb1.size).trans (hb2.mono (Nat.le_trans hb1.size a1.size)))
  have hl2 : w1.heap.size < w2.heap.size := Nat.lt_of_lt_of_le (by simp) hb2.size
  have h02 := hw2.size
  have a2 := below_box w2 (.cells #[.int .i64 k, .int .i64 sv, .int .i64 g, .int .u64 se, .int .u64 n, .string t] 24)
  have x3 := x2.below hl2 a2
  clear hb1 hb2 a1 x2
  go_wp2_with fail
  refine (fixed_any _).mono ?_
  rintro e w3 ⟨rfl, hb3⟩
  obtain ⟨y0, y1, y2, y3, y4, y5⟩ := ent_kept hb3
  obtain ⟨x0, x1, x2, x3, x4, x5⟩ := x3.below (Nat.lt_of_lt_of_le hl2 a2.size) hb3
  go_wp2_with fail
  go_ret
  exact ⟨rfl, hw2.trans ((a2.mono h02).trans (hb3.mono (Nat.le_trans h02 a2.size)))⟩

theorem walk (s : ByteArray) (_hs : s.size ≤ 140737488351232) (w : World) :
    Calls Try.prog 4 #[.string s] w fun e w' => e = .returned (.bool true) ∧ Below w.heap.size w w' := by
  rcases decode_any s with ⟨D, R⟩ | ⟨k, sv, g, se, n, t, _, _, D, R⟩
  · exact decodes s 0 0 0 0 0 ⟨#[]⟩ 30 D R w
  · exact decodes s k sv g se n t 0 D R w

set_option maxRecDepth 100000 in
theorem lifted (os : Os) (started : os.Started) (H : Type) (enc : TypeId × Value → H) :
    ReturnsInHanded {} Try.checked os 4 .any (Rows.entryDecodesSpec.pre6 enc Try.prog Try.f4 Rows.entryDecodesRow.domain false) (Rows.entryDecodesSpec.post enc Try.prog Try.f4 false true false false) := by
  refine returnsInHanded_of_change_sized (C := Try.checked) own started (by kernel_rfl) Try.func4
    (ChangeSpec.witness6 (enc := enc) (C := Try.checked) false ⟨#[], #[.string ByteArray.empty], []⟩ 8 (by kernel_rfl) (by kernel_rfl) (by kernel_rfl) (by kernel_rfl)) ?_
  intro W base args ds gs before hval0 hW hcnd hsz0 _
  have hval : ∀ (j : Nat) t v, Try.f4.params[j]? = some t → args[j]? = some v → Value.okWide Try.prog W .any base t v := hval0
  have hsz : (DataW.weightsEach Try.prog (Try.f4.params.toList ++ Rows.entryDecodesSpec.plain.varTypes Try.prog) (ds ++ gs)).all (· ≤ reachBytes) = true := hsz0
  have hW' := hW
  obtain ⟨p, q, hA0, hV, rfl, hfz, hnd⟩ := hW
  have hA : DataW.TrodAll enc Try.prog W 0 (fun _ => true) true Try.f4.params.toList args.toList ds p := hA0
  rw [Try.params4] at hA hval hsz
  obtain ⟨v0, vs0, d0, ds0, p0, q0, hargs, rfl, rfl, h0, r0⟩ := trodAll_cons hA
  obtain ⟨rfl, rfl, rfl⟩ := trodAll_nil r0
  obtain rfl : args = #[v0] := by cases args; simp_all
  obtain ⟨rfl, rfl⟩ := trodVars_none hV
  obtain ⟨a0, rfl, rfl, rfl, w0⟩ := open_string Try.underlying9 (hval 0 9 v0 rfl rfl) h0
  have z0 : a0.size ≤ 140737488351232 := by
    have hz := sized_string hsz (j := 0) (t := 9) rfl rfl
    rw [length_bytes] at hz
    exact hz
  clear hA0 hval0 hsz0
  simp only [List.append_nil] at hW'
  refine (walk a0 z0 W).mono fun e W' ⟨he, bel⟩ => ?_
  subst he
  exact ⟨_, rfl, _, _, _, [], [], [], hW', trodAll_mk1 (shut_bool Try.underlying4 _), (trodAll_cons_mk (shut_string Try.underlying9 w0) trodAll_mk0), rfl, bel.frame _, fun h => by cases h⟩

theorem over : Rows.entryDecodesRow.holds Try.pinned (OpenSpec.ofChange Rows.entryDecodesSpec) :=
  OpenClaim.holds_of_wide 4 Try.f4 rfl rfl rfl rfl rfl rfl rfl ⟨rfl, rfl, rfl, rfl, rfl⟩ rfl rfl rfl rfl rfl (by kernel_rfl) Try.func4 (by kernel_rfl)
    (of_decide_eq_true (by kernel_rfl)) (by unfold Func.isWrapper; first | (rw [if_pos (by decide +kernel)]; kernel_rfl) | (rw [if_neg (by decide +kernel)]; exact ⟨rfl, rfl⟩))
    (fun os started H enc _ => lifted os started H enc)

end Go.Proofs.Ytokkjnlccgmpiaa.entryDecodes
namespace Go.Proofs.Ytokkjnlccgmpiaa

theorem entryDecodes_holds : Rows.EntryDecodesSaid := entryDecodes.over
#print axioms entryDecodes_holds

end Go.Proofs.Ytokkjnlccgmpiaa
