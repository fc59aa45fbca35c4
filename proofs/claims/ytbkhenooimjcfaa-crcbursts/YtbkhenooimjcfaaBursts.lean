/-
  A sealed text is Ok; if bits are turned in it that lie within four bytes beside one another, one at least, it is not: the law CrcBursts returns true for every input.
  No condition beyond the form's own.
-/
import Derived.Test.YtbkhenooimjcfaaRows
import Derived.Test.YtbkhenooimjcfaaBm
import Derived.WalkKit
import Derived.ProofKit
import Derived.OpenShut
import Derived.ShutString
import Derived.SizedLaws
import Derived.ChangeOld
import Derived.Below
namespace Go.Proofs.Ytbkhenooimjcfaa.crcBursts
open Go.ChangeShapes Go.WideShapes Go.ChangeAt Go.RowKit
open Go.ChangeMaps (open_string shut_string)
set_option linter.unusedVariables false

theorem own : ownKnob Try.prog.godebug = none := by kernel_rfl
theorem length_bytes (s : ByteArray) : s.data.toList.length = s.size := by rw [Array.length_toList]; rfl

theorem hide {p : Prop} (h : p) : Hid p := h
theorem unhide {p : Prop} (h : Hid p) : p := h
theorem u32_of (n : Int) (h : (Lit.int .u32 n).wf = true) : ∃ x : BitVec 32, n = (x.toNat : Int) := by
  have hb := bounds_u32 h
  refine ⟨BitVec.ofNat 32 n.toNat, ?_⟩
  rw [BitVec.toNat_ofNat]
  omega

theorem sealed_size (s : ByteArray) : (s ++ Crc.four (Crc.sum s.data.toList)).size = s.size + 4 := by
  rw [ByteArray.size_append]; rfl
theorem sealed_ok (s : ByteArray) : Crc.okL (s ++ Crc.four (Crc.sum s.data.toList)).data.toList = true := by
  have h : (s ++ Crc.four (Crc.sum s.data.toList)).data.toList = s.data.toList ++ Crc.fourL (Crc.sum s.data.toList) := by
    rw [ByteArray.data_append, Array.toList_append, Crc.four_data]
  rw [h]
  exact Crc.ok_sealed _

set_option maxHeartbeats 400000 in
theorem walk (s : ByteArray) (hs : s.size ≤ 140737488351232) (p : Int) (hp : (Lit.int .i64 p).wf = true) (m0 : Int) (hm0 : (Lit.int .u32 m0).wf = true) (w : World) :
    Calls Try.prog 6 #[.string s, .int .i64 p, .int .u32 m0] w fun e w' => e = .returned (.bool true) ∧ Below w.heap.size w w' := by
  obtain ⟨m, rfl⟩ := u32_of m0 hm0
  clear hm0 hp
  have hz := sealed_size s
  have hk := hide (sealed_ok s)
  have S := hide (fun w => seal_any s w hs)
  have hl : (((s ++ Crc.four (Crc.sum s.data.toList)).size : Int) == (s.size : Int) + 4) = true := by rw [beq_iff_eq]; omega
  generalize s ++ Crc.four (Crc.sum s.data.toList) = t at hz hk S hl
  have ht : t.size ≤ 140737488351236 := by omega
  have ht4 : 4 ≤ t.size := by omega
  have Hz := hide hz
  clear hz
  go_enter Try.func6, Try.ntmps6
  go_wp2_with fail
  refine (unhide S w).mono ?_
  rintro e w1 ⟨rfl, hb1⟩
  clear S
  go_wp2_with fail
  refine (turn_any t p m _ (by omega)).mono ?_
  rintro e w2 ⟨f, rfl, ho, hb2⟩
  have B := hide (burst t p f ht4 (unhide hk) ho)
  have hu : (textOf t.size f).size ≤ 140737488351236 := by rw [textOf_size]; exact ht
  generalize textOf t.size f = u at B hu
  clear ho
  go_wp2_with fail
  refine (fixed_any _).mono ?_
  rintro e w3 ⟨rfl, hb3⟩
  go_wp2_with fail
  refine (ok_any _ _ (by omega)).mono ?_
  rintro e w4 ⟨rfl, hb4⟩
  rw [unhide hk]
  go_wp2_with fail
  refine (ok_any _ _ (by omega)).mono ?_
  rintro e w5 ⟨rfl, hb5⟩
  have B' := unhide B
  go_wp2_with fail
  go_ret
  have s2 := Nat.le_trans hb1.size hb2.size
  have s3 := Nat.le_trans s2 hb3.size
  have s4 := Nat.le_trans s3 hb4.size
  exact ⟨rfl, hb1.trans ((hb2.mono hb1.size).trans ((hb3.mono s2).trans ((hb4.mono s3).trans (hb5.mono s4))))⟩

set_option maxRecDepth 100000 in
theorem lifted (os : Os) (started : os.Started) (H : Type) (enc : TypeId × Value → H) :
    ReturnsInHanded {} Try.checked os 6 .any (Rows.crcBurstsSpec.pre6 enc Try.prog Try.f6 Rows.crcBurstsRow.domain false) (Rows.crcBurstsSpec.post enc Try.prog Try.f6 false true false false) := by
  refine returnsInHanded_of_change_sized (C := Try.checked) own started (by kernel_rfl) Try.func6
    (ChangeSpec.witness6 (enc := enc) (C := Try.checked) false ⟨#[], #[.string ByteArray.empty, .int .i64 0, .int .u32 0], []⟩ 8 (by kernel_rfl) (by kernel_rfl) (by kernel_rfl) (by kernel_rfl)) ?_
  intro W base args ds gs before hval0 hW hcnd hsz0 _
  have hval : ∀ (j : Nat) t v, Try.f6.params[j]? = some t → args[j]? = some v → Value.okWide Try.prog W .any base t v := hval0
  have hsz : (DataW.weightsEach Try.prog (Try.f6.params.toList ++ Rows.crcBurstsSpec.plain.varTypes Try.prog) (ds ++ gs)).all (· ≤ reachBytes) = true := hsz0
  have hW' := hW
  obtain ⟨p, q, hA0, hV, rfl, hfz, hnd⟩ := hW
  have hA : DataW.TrodAll enc Try.prog W 0 (fun _ => true) true Try.f6.params.toList args.toList ds p := hA0
  rw [Try.params6] at hA hval hsz
  obtain ⟨v0, vs0, d0, ds0, p0, q0, hargs, rfl, rfl, h0, r0⟩ := trodAll_cons hA
  obtain ⟨v1, vs1, d1, ds1, p1, q1, rfl, rfl, rfl, h1, r1⟩ := trodAll_cons r0
  obtain ⟨v2, vs2, d2, ds2, p2, q2, rfl, rfl, rfl, h2, r2⟩ := trodAll_cons r1
  obtain ⟨rfl, rfl, rfl⟩ := trodAll_nil r2
  obtain rfl : args = #[v0, v1, v2] := by cases args; simp_all
  obtain ⟨rfl, rfl⟩ := trodVars_none hV
  obtain ⟨a0, rfl, rfl, rfl, w0⟩ := open_string Try.underlying9 (hval 0 9 v0 rfl rfl) h0
  have z0 : a0.size ≤ 140737488351232 := by
    have hz := sized_string hsz (j := 0) (t := 9) rfl rfl
    rw [length_bytes] at hz
    exact hz
  obtain ⟨a1, rfl, rfl, rfl, w1⟩ := open_int Try.underlying3 (hval 1 3 v1 rfl rfl) h1
  obtain ⟨a2, rfl, rfl, rfl, w2⟩ := open_int Try.underlying22 (hval 2 22 v2 rfl rfl) h2
  clear hA0 hval0 hsz0
  simp only [List.append_nil] at hW'
  refine (walk a0 z0 a1 w1 a2 w2 W).mono fun e W' ⟨he, bel⟩ => ?_
  subst he
  exact ⟨_, rfl, _, _, _, [], [], [], hW', trodAll_mk1 (shut_bool Try.underlying4 _), (trodAll_cons_mk (shut_string Try.underlying9 w0) (trodAll_cons_mk (shut_int Try.underlying3 w1) (trodAll_cons_mk (shut_int Try.underlying22 w2) trodAll_mk0))), rfl, bel.frame _, fun h => by cases h⟩

theorem over : Rows.crcBurstsRow.holds Try.pinned (OpenSpec.ofChange Rows.crcBurstsSpec) :=
  OpenClaim.holds_of_wide 6 Try.f6 rfl rfl rfl rfl rfl rfl rfl ⟨rfl, rfl, rfl, rfl, rfl⟩ rfl rfl rfl rfl rfl (by kernel_rfl) Try.func6 (by kernel_rfl)
    (of_decide_eq_true (by kernel_rfl)) (by unfold Func.isWrapper; first | (rw [if_pos (by decide +kernel)]; kernel_rfl) | (rw [if_neg (by decide +kernel)]; exact ⟨rfl, rfl⟩))
    (fun os started H enc _ => lifted os started H enc)

end Go.Proofs.Ytbkhenooimjcfaa.crcBursts
namespace Go.Proofs.Ytbkhenooimjcfaa

theorem crcBursts_holds : Rows.CrcBurstsSaid := crcBursts.over
#print axioms crcBursts_holds

end Go.Proofs.Ytbkhenooimjcfaa
