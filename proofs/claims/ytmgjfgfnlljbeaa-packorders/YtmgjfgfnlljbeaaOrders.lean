/-
  Of numbers that fit, the fields of one width stand as the numbers do, and unlike ones have unlike fields: the law PackOrders returns true for every input.
  No condition beyond the form's own.
-/
import Derived.Test.YtmgjfgfnlljbeaaRows
import Derived.Test.YtmgjfgfnlljbeaaMb
import Derived.Test.YtmgjfgfnlljbeaaWf
import Derived.WalkKit
import Derived.ProofKit
import Derived.OpenShut
import Derived.ShutString
import Derived.SizedLaws
import Derived.ChangeOld
import Derived.Below
namespace Go.Proofs.Ytmgjfgfnlljbeaa.packOrders
open Go.ChangeShapes Go.WideShapes Go.ChangeAt Go.RowKit
open Go.ChangeMaps (open_string shut_string)
set_option linter.unusedVariables false

theorem own : ownKnob Try.prog.godebug = none := by kernel_rfl
theorem length_bytes (s : ByteArray) : s.data.toList.length = s.size := by rw [Array.length_toList]; rfl

theorem u64_of (n : Int) (h : (Lit.int .u64 n).wf = true) : ∃ x : Nat, n = (x : Int) ∧ x < 18446744073709551616 := by
  have hb := bounds_u64 h
  exact ⟨n.toNat, by omega, by omega⟩
theorem ret_bool {b : Bool} (h : b = true) : Ending.returned (.bool b) = .returned (.bool true) := by rw [h]

theorem last (n m : Nat) : (decide (n = m) == ((n : Int) == (m : Int))) = true := by
  rw [beq_iff_eq, Bool.eq_iff_iff, decide_eq_true_iff, beq_iff_eq]
  omega

theorem unfit (n m : Nat) (k : Int) (a b : Bool) (kn : ∀ w, Calls Try.prog 13 #[.int .u64 (n : Int), .int .i64 k] w fun e w' => e = .returned (.bool a) ∧ w' = w)
    (km : ∀ w, Calls Try.prog 13 #[.int .u64 (m : Int), .int .i64 k] w fun e w' => e = .returned (.bool b) ∧ w' = w) (h : (a && b) = false) (w : World) :
    Calls Try.prog 7 #[.int .u64 (n : Int), .int .u64 (m : Int), .int .i64 k] w fun e w' => e = .returned (.bool true) ∧ Below w.heap.size w w' := by
  cases a with
  | false =>
    go_enter Try.func7, Try.ntmps7
    go_wp2_with fail
    refine (fixed_any _).mono ?_
    rintro e w1 ⟨rfl, hb1⟩
    go_wp2_with fail
    refine (kn _).mono ?_
    rintro e w2 ⟨rfl, rfl⟩
    go_wp2_with fail
    refine (fixed_any _).mono ?_
    rintro e w3 ⟨rfl, hb3⟩
    go_wp2_with fail
    go_ret
    exact ⟨rfl, hb1.trans (hb3.mono hb1.size)⟩
  | true =>
    cases b with
    | true => exact absurd h (by decide)
    | false =>
      go_enter Try.func7, Try.ntmps7
      go_wp2_with fail
      refine (fixed_any _).mono ?_
      rintro e w1 ⟨rfl, hb1⟩
      go_wp2_with fail
      refine (kn _).mono ?_
      rintro e w2 ⟨rfl, rfl⟩
      go_wp2_with fail
      refine (km _).mono ?_
      rintro e w2 ⟨rfl, rfl⟩
      go_wp2_with fail
      refine (fixed_any _).mono ?_
      rintro e w3 ⟨rfl, hb3⟩
      go_wp2_with fail
      go_ret
      exact ⟨rfl, hb1.trans (hb3.mono hb1.size)⟩

set_option maxHeartbeats 1000000 in
theorem fit (n m : Nat) (k : Nat) (h1 : 1 ≤ k) (h8 : k ≤ 8) (hn : n < 256 ^ k) (hm : m < 256 ^ k) (w : World) :
    Calls Try.prog 7 #[.int .u64 (n : Int), .int .u64 (m : Int), .int .i64 (k : Int)] w fun e w' => e = .returned (.bool true) ∧ Below w.heap.size w w' := by
  have kn : ∀ w, _ := fun w => fits_ok n k h1 h8 w
  have km : ∀ w, _ := fun w => fits_ok m k h1 h8 w
  rw [decide_eq_true hn] at kn
  rw [decide_eq_true hm] at km
  have pn : ∀ w, _ := fun w => put_ok n k h1 h8 w
  have pm : ∀ w, _ := fun w => put_ok m k h1 h8 w
  have L : Op.bytesLess (Pack.putB n k).toList (Pack.putB m k).toList = decide (n < m) := Pack.put_less n m k hn hm
  have E : ((Pack.putB n k).toList == (Pack.putB m k).toList) = decide (n = m) := Pack.put_equal n m k hn hm
  generalize Pack.putB n k = a at *
  generalize Pack.putB m k = b at *
  clear hn hm
  go_enter Try.func7, Try.ntmps7
  go_wp2_with fail
  refine (fixed_any _).mono ?_
  rintro e w1 ⟨rfl, hb1⟩
  go_wp2_with fail
  refine (kn _).mono ?_
  rintro e w2 ⟨rfl, rfl⟩
  go_wp2_with fail
  refine (km _).mono ?_
  rintro e w2 ⟨rfl, rfl⟩
  go_wp2_with fail
  refine (pn _).mono ?_
  rintro e w3 ⟨rfl, hb3⟩
  go_wp2_with fail
  refine (pm _).mono ?_
  rintro e w4 ⟨rfl, hb4⟩
  go_wp2_with fail
  refine (pn _).mono ?_
  rintro e w5 ⟨rfl, hb5⟩
  go_wp2_with fail
  refine (pm _).mono ?_
  rintro e w6 ⟨rfl, hb6⟩
  go_wp2_with fail
  go_ret
  have s3 := Nat.le_trans hb1.size hb3.size
  have s4 := Nat.le_trans s3 hb4.size
  have s5 := Nat.le_trans s4 hb5.size
  exact ⟨ret_bool (last n m), hb1.trans ((hb3.mono hb1.size).trans ((hb4.mono s3).trans ((hb5.mono s4).trans (hb6.mono s5))))⟩

theorem walk (n0 : Int) (hn0 : (Lit.int .u64 n0).wf = true) (m0 : Int) (hm0 : (Lit.int .u64 m0).wf = true) (k : Int) (_hk : (Lit.int .i64 k).wf = true) (w : World) :
    Calls Try.prog 7 #[.int .u64 n0, .int .u64 m0, .int .i64 k] w fun e w' => e = .returned (.bool true) ∧ Below w.heap.size w w' := by
  obtain ⟨n, rfl, hn⟩ := u64_of n0 hn0
  obtain ⟨m, rfl, hm⟩ := u64_of m0 hm0
  by_cases h : 1 ≤ k ∧ k ≤ 8
  · obtain ⟨j, rfl⟩ : ∃ j : Nat, k = (j : Int) := ⟨k.toNat, by omega⟩
    by_cases hj : n < 256 ^ j ∧ m < 256 ^ j
    · exact fit n m j (by omega) (by omega) hj.1 hj.2 w
    · refine unfit n m j _ _ (fun w => fits_ok n j (by omega) (by omega) w) (fun w => fits_ok m j (by omega) (by omega) w) ?_ w
      rw [Bool.and_eq_false_iff, decide_eq_false_iff_not, decide_eq_false_iff_not]
      omega
  · exact unfit n m k false false (fun w => fits_bad n k h w) (fun w => fits_bad m k h w) rfl w

set_option maxRecDepth 100000 in
theorem lifted (os : Os) (started : os.Started) (H : Type) (enc : TypeId × Value → H) :
    ReturnsInHanded {} Try.checked os 7 .any (Rows.packOrdersSpec.pre6 enc Try.prog Try.f7 Rows.packOrdersRow.domain false) (Rows.packOrdersSpec.post enc Try.prog Try.f7 false true false false) := by
  refine returnsInHanded_of_change_sized (C := Try.checked) own started (by kernel_rfl) Try.func7
    (ChangeSpec.witness6 (enc := enc) (C := Try.checked) false ⟨#[], #[.int .u64 0, .int .u64 0, .int .i64 0], []⟩ 8 (by kernel_rfl) (by kernel_rfl) (by kernel_rfl) (by kernel_rfl)) ?_
  intro W base args ds gs before hval0 hW hcnd hsz0 _
  have hval : ∀ (j : Nat) t v, Try.f7.params[j]? = some t → args[j]? = some v → Value.okWide Try.prog W .any base t v := hval0
  have hsz : (DataW.weightsEach Try.prog (Try.f7.params.toList ++ Rows.packOrdersSpec.plain.varTypes Try.prog) (ds ++ gs)).all (· ≤ reachBytes) = true := hsz0
  have hW' := hW
  obtain ⟨p, q, hA0, hV, rfl, hfz, hnd⟩ := hW
  have hA : DataW.TrodAll enc Try.prog W 0 (fun _ => true) true Try.f7.params.toList args.toList ds p := hA0
  rw [Try.params7] at hA hval hsz
  obtain ⟨v0, vs0, d0, ds0, p0, q0, hargs, rfl, rfl, h0, r0⟩ := trodAll_cons hA
  obtain ⟨v1, vs1, d1, ds1, p1, q1, rfl, rfl, rfl, h1, r1⟩ := trodAll_cons r0
  obtain ⟨v2, vs2, d2, ds2, p2, q2, rfl, rfl, rfl, h2, r2⟩ := trodAll_cons r1
  obtain ⟨rfl, rfl, rfl⟩ := trodAll_nil r2
  obtain rfl : args = #[v0, v1, v2] := by cases args; simp_all
  obtain ⟨rfl, rfl⟩ := trodVars_none hV
  obtain ⟨a0, rfl, rfl, rfl, w0⟩ := open_int Try.underlying22 (hval 0 22 v0 rfl rfl) h0
  obtain ⟨a1, rfl, rfl, rfl, w1⟩ := open_int Try.underlying22 (hval 1 22 v1 rfl rfl) h1
  obtain ⟨a2, rfl, rfl, rfl, w2⟩ := open_int Try.underlying3 (hval 2 3 v2 rfl rfl) h2
  clear hA0 hval0 hsz0
  simp only [List.append_nil] at hW'
  refine (walk a0 w0 a1 w1 a2 w2 W).mono fun e W' ⟨he, bel⟩ => ?_
  subst he
  exact ⟨_, rfl, _, _, _, [], [], [], hW', trodAll_mk1 (shut_bool Try.underlying4 _), (trodAll_cons_mk (shut_int Try.underlying22 w0) (trodAll_cons_mk (shut_int Try.underlying22 w1) (trodAll_cons_mk (shut_int Try.underlying3 w2) trodAll_mk0))), rfl, bel.frame _, fun h => by cases h⟩

theorem over : Rows.packOrdersRow.holds Try.pinned (OpenSpec.ofChange Rows.packOrdersSpec) :=
  OpenClaim.holds_of_wide 7 Try.f7 rfl rfl rfl rfl rfl rfl rfl ⟨rfl, rfl, rfl, rfl, rfl⟩ rfl rfl rfl rfl rfl (by kernel_rfl) Try.func7 (by kernel_rfl)
    (of_decide_eq_true (by kernel_rfl)) (by unfold Func.isWrapper; first | (rw [if_pos (by decide +kernel)]; kernel_rfl) | (rw [if_neg (by decide +kernel)]; exact ⟨rfl, rfl⟩))
    (fun os started H enc _ => lifted os started H enc)

end Go.Proofs.Ytmgjfgfnlljbeaa.packOrders
namespace Go.Proofs.Ytmgjfgfnlljbeaa

theorem packOrders_holds : Rows.PackOrdersSaid := packOrders.over
#print axioms packOrders_holds

end Go.Proofs.Ytmgjfgfnlljbeaa
