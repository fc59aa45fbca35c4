/-
  What is taken and put again is what stood there: the law PackOnce returns true for every input.
  No condition beyond the form's own.
-/
import Derived.Test.YtmgjfgfnlljbeaaRows
import Derived.Test.YtmgjfgfnlljbeaaOa
import Derived.WalkKit
import Derived.ProofKit
import Derived.OpenShut
import Derived.ShutString
import Derived.SizedLaws
import Derived.ChangeOld
import Derived.Below
namespace Go.Proofs.Ytmgjfgfnlljbeaa.packOnce
open Go.ChangeShapes Go.WideShapes Go.ChangeAt Go.RowKit
open Go.ChangeMaps (open_string shut_string)
set_option linter.unusedVariables false

theorem own : ownKnob Try.prog.godebug = none := by kernel_rfl
theorem length_bytes (s : ByteArray) : s.data.toList.length = s.size := by rw [Array.length_toList]; rfl

theorem parts (a b s : ByteArray) (h : a ++ b = s) (hs : s.size ≤ 140737488351232) : a.size + b.size ≤ 140737488351232 := by
  rw [← h, ByteArray.size_append] at hs; exact hs

set_option maxHeartbeats 1000000 in
theorem walk (s : ByteArray) (hs : s.size ≤ 140737488351232) (k : Int) (_hk : (Lit.int .i64 k).wf = true) (w : World) :
    Calls Try.prog 6 #[.string s, .int .i64 k] w fun e w' => e = .returned (.bool true) ∧ Below w.heap.size w w' := by
  obtain ⟨a, x, b, kt, ho⟩ := take_once s (by omega) k
  obtain ⟨t, y, d, f, c, ktt, kpt, hu⟩ := takeText_once s (by omega) k
  clear _hk
  rcases ho with rfl | ⟨rfl, p, hp, kp, kf⟩
  · rcases hu with rfl | ⟨rfl, rfl, hfy⟩
    · clear hs
      go_enter Try.func6, Try.ntmps6
      go_wp2_with fail
      refine (kt _).mono ?_
      rintro e w1 ⟨rfl, hb1⟩
      go_wp2_with fail
      refine (ktt _).mono ?_
      rintro e w2 ⟨rfl, hb2⟩
      go_wp2_with fail
      refine (kpt _).mono ?_
      rintro e w3 ⟨rfl, hb3⟩
      go_wp2_with fail
      refine (fixed_any _).mono ?_
      rintro e w4 ⟨rfl, hb4⟩
      go_wp2_with fail
      go_ret
      have s2 := Nat.le_trans hb1.size hb2.size
      have s3 := Nat.le_trans s2 hb3.size
      exact ⟨rfl, hb1.trans ((hb2.mono hb1.size).trans ((hb3.mono s2).trans (hb4.mono s3)))⟩
    · have z1 := parts f y s hfy hs
      have e1 : ((f ++ y).toList == s.toList) = true := bytes_eq hfy
      clear hfy hs
      go_enter Try.func6, Try.ntmps6
      go_wp2_with fail
      refine (kt _).mono ?_
      rintro e w1 ⟨rfl, hb1⟩
      go_wp2_with fail
      refine (ktt _).mono ?_
      rintro e w2 ⟨rfl, hb2⟩
      go_wp2_with fail
      refine (kpt _).mono ?_
      rintro e w3 ⟨rfl, hb3⟩
      go_wp2_with fail
      refine (fixed_any _).mono ?_
      rintro e w4 ⟨rfl, hb4⟩
      go_wp2_with fail
      go_ret
      have s2 := Nat.le_trans hb1.size hb2.size
      have s3 := Nat.le_trans s2 hb3.size
      exact ⟨rfl, hb1.trans ((hb2.mono hb1.size).trans ((hb3.mono s2).trans (hb4.mono s3)))⟩
  · rcases hu with rfl | ⟨rfl, rfl, hfy⟩
    · have z2 := parts p x s hp hs
      have e2 : ((p ++ x).toList == s.toList) = true := bytes_eq hp
      clear hp hs
      go_enter Try.func6, Try.ntmps6
      go_wp2_with fail
      refine (kt _).mono ?_
      rintro e w1 ⟨rfl, hb1⟩
      go_wp2_with fail
      refine (ktt _).mono ?_
      rintro e w2 ⟨rfl, hb2⟩
      go_wp2_with fail
      refine (kpt _).mono ?_
      rintro e w3 ⟨rfl, hb3⟩
      go_wp2_with fail
      refine (fixed_any _).mono ?_
      rintro e w4 ⟨rfl, hb4⟩
      go_wp2_with fail
      refine (kp _).mono ?_
      rintro e w5 ⟨rfl, hb5⟩
      go_wp2_with fail
      refine (kf _).mono ?_
      rintro e w6 ⟨rfl, rfl⟩
      go_wp2_with fail
      go_ret
      have s2 := Nat.le_trans hb1.size hb2.size
      have s3 := Nat.le_trans s2 hb3.size
      have s4 := Nat.le_trans s3 hb4.size
      exact ⟨rfl, hb1.trans ((hb2.mono hb1.size).trans ((hb3.mono s2).trans ((hb4.mono s3).trans (hb5.mono s4))))⟩
    · have z1 := parts f y s hfy hs
      have e1 : ((f ++ y).toList == s.toList) = true := bytes_eq hfy
      have z2 := parts p x s hp hs
      have e2 : ((p ++ x).toList == s.toList) = true := bytes_eq hp
      clear hfy hp hs
      go_enter Try.func6, Try.ntmps6
      go_wp2_with fail
      refine (kt _).mono ?_
      rintro e w1 ⟨rfl, hb1⟩
      go_wp2_with fail
      refine (ktt _).mono ?_
      rintro e w2 ⟨rfl, hb2⟩
      go_wp2_with fail
      refine (kpt _).mono ?_
      rintro e w3 ⟨rfl, hb3⟩
      go_wp2_with fail
      refine (fixed_any _).mono ?_
      rintro e w4 ⟨rfl, hb4⟩
      go_wp2_with fail
      refine (kp _).mono ?_
      rintro e w5 ⟨rfl, hb5⟩
      go_wp2_with fail
      refine (kf _).mono ?_
      rintro e w6 ⟨rfl, rfl⟩
      go_wp2_with fail
      go_ret
      have s2 := Nat.le_trans hb1.size hb2.size
      have s3 := Nat.le_trans s2 hb3.size
      have s4 := Nat.le_trans s3 hb4.size
      exact ⟨rfl, hb1.trans ((hb2.mono hb1.size).trans ((hb3.mono s2).trans ((hb4.mono s3).trans (hb5.mono s4))))⟩

set_option maxRecDepth 100000 in
theorem lifted (os : Os) (started : os.Started) (H : Type) (enc : TypeId × Value → H) :
    ReturnsInHanded {} Try.checked os 6 .any (Rows.packOnceSpec.pre6 enc Try.prog Try.f6 Rows.packOnceRow.domain false) (Rows.packOnceSpec.post enc Try.prog Try.f6 false true false false) := by
  refine returnsInHanded_of_change_sized (C := Try.checked) own started (by kernel_rfl) Try.func6
    (ChangeSpec.witness6 (enc := enc) (C := Try.checked) false ⟨#[], #[.string ByteArray.empty, .int .i64 0], []⟩ 8 (by kernel_rfl) (by kernel_rfl) (by kernel_rfl) (by kernel_rfl)) ?_
  intro W base args ds gs before hval0 hW hcnd hsz0 _
  have hval : ∀ (j : Nat) t v, Try.f6.params[j]? = some t → args[j]? = some v → Value.okWide Try.prog W .any base t v := hval0
  have hsz : (DataW.weightsEach Try.prog (Try.f6.params.toList ++ Rows.packOnceSpec.plain.varTypes Try.prog) (ds ++ gs)).all (· ≤ reachBytes) = true := hsz0
  have hW' := hW
  obtain ⟨p, q, hA0, hV, rfl, hfz, hnd⟩ := hW
  have hA : DataW.TrodAll enc Try.prog W 0 (fun _ => true) true Try.f6.params.toList args.toList ds p := hA0
  rw [Try.params6] at hA hval hsz
  obtain ⟨v0, vs0, d0, ds0, p0, q0, hargs, rfl, rfl, h0, r0⟩ := trodAll_cons hA
  obtain ⟨v1, vs1, d1, ds1, p1, q1, rfl, rfl, rfl, h1, r1⟩ := trodAll_cons r0
  obtain ⟨rfl, rfl, rfl⟩ := trodAll_nil r1
  obtain rfl : args = #[v0, v1] := by cases args; simp_all
  obtain ⟨rfl, rfl⟩ := trodVars_none hV
  obtain ⟨a0, rfl, rfl, rfl, w0⟩ := open_string Try.underlying9 (hval 0 9 v0 rfl rfl) h0
  have z0 : a0.size ≤ 140737488351232 := by
    have hz := sized_string hsz (j := 0) (t := 9) rfl rfl
    rw [length_bytes] at hz
    exact hz
  obtain ⟨a1, rfl, rfl, rfl, w1⟩ := open_int Try.underlying3 (hval 1 3 v1 rfl rfl) h1
  clear hA0 hval0 hsz0
  simp only [List.append_nil] at hW'
  refine (walk a0 z0 a1 w1 W).mono fun e W' ⟨he, bel⟩ => ?_
  subst he
  exact ⟨_, rfl, _, _, _, [], [], [], hW', trodAll_mk1 (shut_bool Try.underlying4 _), (trodAll_cons_mk (shut_string Try.underlying9 w0) (trodAll_cons_mk (shut_int Try.underlying3 w1) trodAll_mk0)), rfl, bel.frame _, fun h => by cases h⟩

theorem over : Rows.packOnceRow.holds Try.pinned (OpenSpec.ofChange Rows.packOnceSpec) :=
  OpenClaim.holds_of_wide 6 Try.f6 rfl rfl rfl rfl rfl rfl rfl ⟨rfl, rfl, rfl, rfl, rfl⟩ rfl rfl rfl rfl rfl (by kernel_rfl) Try.func6 (by kernel_rfl)
    (of_decide_eq_true (by kernel_rfl)) (by unfold Func.isWrapper; first | (rw [if_pos (by decide +kernel)]; kernel_rfl) | (rw [if_neg (by decide +kernel)]; exact ⟨rfl, rfl⟩))
    (fun os started H enc _ => lifted os started H enc)

end Go.Proofs.Ytmgjfgfnlljbeaa.packOnce
namespace Go.Proofs.Ytmgjfgfnlljbeaa

theorem packOnce_holds : Rows.PackOnceSaid := packOnce.over
#print axioms packOnce_holds

end Go.Proofs.Ytmgjfgfnlljbeaa
