/-
  Of three texts of one length the exclusive or of the sums is the sum of the texts' exclusive or: the law CrcLinear returns true for every input.
  No condition beyond the form's own.
-/
import Derived.Test.YtbkhenooimjcfaaRows
import Derived.Test.YtbkhenooimjcfaaXa
import Derived.WalkKit
import Derived.ProofKit
import Derived.OpenShut
import Derived.ShutString
import Derived.SizedLaws
import Derived.ChangeOld
import Derived.Below
namespace Go.Proofs.Ytbkhenooimjcfaa.crcLinear
open Go.ChangeShapes Go.WideShapes Go.ChangeAt Go.RowKit
open Go.ChangeMaps (open_string shut_string)
set_option linter.unusedVariables false

theorem own : ownKnob Try.prog.godebug = none := by kernel_rfl
theorem length_bytes (s : ByteArray) : s.data.toList.length = s.size := by rw [Array.length_toList]; rfl

theorem hide {p : Prop} (h : p) : Hid p := h
theorem unhide {p : Prop} (h : Hid p) : p := h
theorem ret_bool {b : Bool} (h : b = true) : Ending.returned (.bool b) = .returned (.bool true) := by rw [h]

theorem fin_eq (a b c : ByteArray) (hab : a.size = b.size) (hac : a.size = c.size) :
    (bits .xor .u32 (bits .xor .u32 ((Crc.sum a.data.toList).toNat : Int) ((Crc.sum b.data.toList).toNat : Int)) ((Crc.sum c.data.toList).toNat : Int) == ((Crc.sum (textOf a.size (xorTo a b c a.size)).data.toList).toNat : Int)) = true := by
  rw [text_xorL a b c hab hac, Crc.sum_xor3 _ _ _ (by rw [Crc.length_data, Crc.length_data, hab]) (by rw [Crc.length_data, Crc.length_data, hac]), Crc.xor32, Crc.xor32]
  simp

set_option maxHeartbeats 400000 in
theorem walk_eq (a b c : ByteArray) (ha : a.size ≤ 140737488351232) (hab : a.size = b.size) (hac : a.size = c.size) (w : World) :
    Calls Try.prog 5 #[.string a, .string b, .string c] w fun e w' => e = .returned (.bool true) ∧ Below w.heap.size w w' := by
  have h1 : ((a.size : Int) != (b.size : Int)) = false := by rw [hab]; simp
  have h2 : ((a.size : Int) != (c.size : Int)) = false := by rw [hac]; simp
  have H := hide (fin_eq a b c hab hac)
  have X := hide (fun w => xor_any a b c w ha hab hac)
  have hsa : a.size ≤ maxLen := by unfold maxLen; omega
  have hsb : b.size ≤ maxLen := by rw [← hab]; exact hsa
  have hsc : c.size ≤ maxLen := by rw [← hac]; exact hsa
  have hst : (textOf a.size (xorTo a b c a.size)).size ≤ maxLen := by rw [textOf_size]; exact hsa
  generalize textOf a.size (xorTo a b c a.size) = t at H X hst
  clear hab hac
  go_enter Try.func5, Try.ntmps5
  go_wp2_with fail
  refine (fixed_any _).mono ?_
  rintro e w1 ⟨rfl, hb1⟩
  go_wp2_with fail
  refine (of_any _ _ hsa).mono ?_
  rintro e w2 ⟨rfl, rfl⟩
  go_wp2_with fail
  refine (of_any _ _ hsb).mono ?_
  rintro e w2 ⟨rfl, rfl⟩
  go_wp2_with fail
  refine (of_any _ _ hsc).mono ?_
  rintro e w2 ⟨rfl, rfl⟩
  go_wp2_with fail
  refine (unhide X _).mono ?_
  rintro e w3 ⟨rfl, hb3⟩
  go_wp2_with fail
  refine (of_any _ _ hst).mono ?_
  rintro e w2 ⟨rfl, rfl⟩
  go_wp2_with fail
  go_ret
  exact ⟨ret_bool (unhide H), hb1.trans (hb3.mono hb1.size)⟩

set_option maxHeartbeats 400000 in
theorem walk (a : ByteArray) (ha : a.size ≤ 140737488351232) (b : ByteArray) (hb : b.size ≤ 140737488351232) (c : ByteArray) (hc : c.size ≤ 140737488351232) (w : World) :
    Calls Try.prog 5 #[.string a, .string b, .string c] w fun e w' => e = .returned (.bool true) ∧ Below w.heap.size w w' := by
  by_cases hab : a.size = b.size
  · by_cases hac : a.size = c.size
    · exact walk_eq a b c ha hab hac w
    · have h1 : ((a.size : Int) != (b.size : Int)) = false := by rw [hab]; simp
      have h2 : ((a.size : Int) != (c.size : Int)) = true := by simp; omega
      clear hab hac
      go_enter Try.func5, Try.ntmps5
      go_wp2_with fail
      refine (fixed_any _).mono ?_
      rintro e w1 ⟨rfl, hb1⟩
      go_wp2_with fail
      refine (fixed_any _).mono ?_
      rintro e w2 ⟨rfl, hb2⟩
      go_wp2_with fail
      go_ret
      exact ⟨rfl, hb1.trans (hb2.mono hb1.size)⟩
  · have h1 : ((a.size : Int) != (b.size : Int)) = true := by simp; omega
    clear hab
    go_enter Try.func5, Try.ntmps5
    go_wp2_with fail
    refine (fixed_any _).mono ?_
    rintro e w1 ⟨rfl, hb1⟩
    go_wp2_with fail
    refine (fixed_any _).mono ?_
    rintro e w2 ⟨rfl, hb2⟩
    go_wp2_with fail
    go_ret
    exact ⟨rfl, hb1.trans (hb2.mono hb1.size)⟩

set_option maxRecDepth 100000 in
theorem lifted (os : Os) (started : os.Started) (H : Type) (enc : TypeId × Value → H) :
    ReturnsInHanded {} Try.checked os 5 .any (Rows.crcLinearSpec.pre6 enc Try.prog Try.f5 Rows.crcLinearRow.domain false) (Rows.crcLinearSpec.post enc Try.prog Try.f5 false true false false) := by
  refine returnsInHanded_of_change_sized (C := Try.checked) own started (by kernel_rfl) Try.func5
    (ChangeSpec.witness6 (enc := enc) (C := Try.checked) false ⟨#[], #[.string ByteArray.empty, .string ByteArray.empty, .string ByteArray.empty], []⟩ 8 (by kernel_rfl) (by kernel_rfl) (by kernel_rfl) (by kernel_rfl)) ?_
  intro W base args ds gs before hval0 hW hcnd hsz0 _
  have hval : ∀ (j : Nat) t v, Try.f5.params[j]? = some t → args[j]? = some v → Value.okWide Try.prog W .any base t v := hval0
  have hsz : (DataW.weightsEach Try.prog (Try.f5.params.toList ++ Rows.crcLinearSpec.plain.varTypes Try.prog) (ds ++ gs)).all (· ≤ reachBytes) = true := hsz0
  have hW' := hW
  obtain ⟨p, q, hA0, hV, rfl, hfz, hnd⟩ := hW
  have hA : DataW.TrodAll enc Try.prog W 0 (fun _ => true) true Try.f5.params.toList args.toList ds p := hA0
  rw [Try.params5] at hA hval hsz
  obtain ⟨v0, vs0, d0, ds0, p0, q0, hargs, rfl, rfl, h0, r0⟩ := trodAll_cons hA
  obtain ⟨v1, vs1, d1, ds1, p1, q1, rfl, rfl, rfl, h1, r1⟩ := trodAll_cons r0
  obtain ⟨v2, vs2, d2, ds2, p2, q2, rfl, rfl, rfl, h2, r2⟩ := trodAll_cons r1
  obtain ⟨rfl, rfl, rfl⟩ := trodAll_nil r2
  obtain rfl : args = #[v0, v1, v2] := by cases args; simp_all
  obtain ⟨rfl, rfl⟩ := trodVars_none hV
  obtain ⟨a0, rfl, rfl, rfl, w0⟩ := open_string Try.underlying9 (hval 0 9 v0 rfl rfl) h0
  have z0 : a0.size ≤ 140737488351232 := by
    have hz := sized_string hsz (j := 0) (t := 9) rfl rfl
    rw [length_bytes] at hz
    exact hz
  obtain ⟨a1, rfl, rfl, rfl, w1⟩ := open_string Try.underlying9 (hval 1 9 v1 rfl rfl) h1
  have z1 : a1.size ≤ 140737488351232 := by
    have hz := sized_string hsz (j := 1) (t := 9) rfl rfl
    rw [length_bytes] at hz
    exact hz
  obtain ⟨a2, rfl, rfl, rfl, w2⟩ := open_string Try.underlying9 (hval 2 9 v2 rfl rfl) h2
  have z2 : a2.size ≤ 140737488351232 := by
    have hz := sized_string hsz (j := 2) (t := 9) rfl rfl
    rw [length_bytes] at hz
    exact hz
  clear hA0 hval0 hsz0
  simp only [List.append_nil] at hW'
  refine (walk a0 z0 a1 z1 a2 z2 W).mono fun e W' ⟨he, bel⟩ => ?_
  subst he
  exact ⟨_, rfl, _, _, _, [], [], [], hW', trodAll_mk1 (shut_bool Try.underlying4 _), (trodAll_cons_mk (shut_string Try.underlying9 w0) (trodAll_cons_mk (shut_string Try.underlying9 w1) (trodAll_cons_mk (shut_string Try.underlying9 w2) trodAll_mk0))), rfl, bel.frame _, fun h => by cases h⟩

theorem over : Rows.crcLinearRow.holds Try.pinned (OpenSpec.ofChange Rows.crcLinearSpec) :=
  OpenClaim.holds_of_wide 5 Try.f5 rfl rfl rfl rfl rfl rfl rfl ⟨rfl, rfl, rfl, rfl, rfl⟩ rfl rfl rfl rfl rfl (by kernel_rfl) Try.func5 (by kernel_rfl)
    (of_decide_eq_true (by kernel_rfl)) (by unfold Func.isWrapper; first | (rw [if_pos (by decide +kernel)]; kernel_rfl) | (rw [if_neg (by decide +kernel)]; exact ⟨rfl, rfl⟩))
    (fun os started H enc _ => lifted os started H enc)

end Go.Proofs.Ytbkhenooimjcfaa.crcLinear
namespace Go.Proofs.Ytbkhenooimjcfaa

theorem crcLinear_holds : Rows.CrcLinearSaid := crcLinear.over
#print axioms crcLinear_holds

end Go.Proofs.Ytbkhenooimjcfaa
