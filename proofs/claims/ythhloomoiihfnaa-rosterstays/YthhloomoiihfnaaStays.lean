/-
  A roster that may be stays one; what one session does changes no other one: the law RosterStays returns true for every input.
  No condition beyond the form's own.
-/
import Derived.Test.YthhloomoiihfnaaRows
import Derived.Test.YthhloomoiihfnaaStA
import Derived.Test.YthhloomoiihfnaaStB
import Derived.Test.YthhloomoiihfnaaStC
import Derived.Test.YthhloomoiihfnaaStD
import Derived.WalkKit
import Derived.ProofKit
import Derived.OpenShut
import Derived.ShutString
import Derived.SizedLaws
import Derived.ChangeOld
import Derived.Below
namespace Go.Proofs.Ythhloomoiihfnaa.rosterStays
open Go.Sort Go.ChangeShapes Go.WideShapes Go.ChangeAt Go.RowKit
open Go.ChangeMaps (open_string shut_string)
set_option linter.unusedVariables false
set_option maxRecDepth 10000

theorem own : ownKnob Try.prog.godebug = none := by kernel_rfl
theorem length_bytes (s : ByteArray) : s.data.toList.length = s.size := by rw [Array.length_toList]; rfl

theorem walk (l : Nat) (lb : l < 18446744073709551616) (la : Option Addr) (L : List Se) (lc : Nat) (lz : L.length * 16 ≤ 140737488351232) (lk : L.length ≤ lc) (lm : lc ≤ maxLen) (ls : ∀ x ∈ L, x.fit) (d0 : Int) (dw : (Lit.int .u64 d0).wf = true) (w : World) (hL : Li Se.vals 0 la L w) :
    Calls Try.prog 5 #[.agg #[.int .u64 (l : Int), .slice la L.length lc], .int .u64 d0] w fun e w' => e = .returned (.bool true) ∧ Below w.heap.size w w' := by
  obtain ⟨d, rfl, db⟩ := u64_nat d0 dw
  by_cases h1 : opnE l L = 0
  · by_cases h2 : clsE d L = 0
    · exact staysA l lb la L lc lz lk lm ls d h1 h2 w hL
    · exact staysB l lb la L lc lz lk lm ls d h1 h2 w hL
  · by_cases h2 : clsE d L = 0
    · exact staysC l lb la L lc lz lk lm ls d h1 h2 w hL
    · exact staysD l lb la L lc lz lk lm ls d h1 h2 w hL

set_option maxRecDepth 100000 in
theorem lifted (os : Go.Os) (started : os.Started) (H : Type) (enc : TypeId × Value → H) :
    ReturnsInHanded {} Try.checked os 5 .any (Rows.rosterStaysSpec.pre6 enc Try.prog Try.f5 Rows.rosterStaysRow.domain false) (Rows.rosterStaysSpec.post enc Try.prog Try.f5 false true false false) := by
  refine returnsInHanded_of_change_sized (C := Try.checked) own started (by kernel_rfl) Try.func5
    (ChangeSpec.witness6 (enc := enc) (C := Try.checked) false ⟨#[], #[.agg #[.int .u64 0, .slice none 0 0], .int .u64 0], []⟩ 8 (by kernel_rfl) (by kernel_rfl) (by kernel_rfl) (by kernel_rfl)) ?_
  intro W base args ds gs before hval0 hW hcnd hsz0 _
  have hval : ∀ (j : Nat) t v, Try.f5.params[j]? = some t → args[j]? = some v → Value.okWide Try.prog W .any base t v := hval0
  have hsz : (DataW.weightsEach Try.prog (Try.f5.params.toList ++ Rows.rosterStaysSpec.plain.varTypes Try.prog) (ds ++ gs)).all (· ≤ reachBytes) = true := hsz0
  have hW' := hW
  obtain ⟨p, q, hA0, hV, rfl, hfz, hnd⟩ := hW
  have hA : DataW.TrodAll enc Try.prog W 0 (fun _ => true) true Try.f5.params.toList args.toList ds p := hA0
  rw [Try.params5] at hA hval hsz

  obtain ⟨v0, vs0, d0, ds0, p0, q0, hargs, rfl, rfl, h0, r0⟩ := trodAll_cons hA
  obtain ⟨v1, vs1, d1, ds1, p1, q1, rfl, rfl, rfl, h1, r1⟩ := trodAll_cons r0
  obtain ⟨rfl, rfl, rfl⟩ := trodAll_nil r1
  obtain rfl : args = #[v0, v1] := by cases args; simp_all
  obtain ⟨rfl, rfl⟩ := trodVars_none hV
  obtain ⟨rl0, ra0, rL0, rc0, rfl, rb0, ⟨rz0, rk0, rm0, rs0, rS0⟩⟩ := open_ro (by obtain ⟨cs, h1, _⟩ := okWide_struct Try.underlying25 (hval 0 25 v0 rfl rfl); exact ⟨cs, h1⟩) (fun n hn => of_decide_eq_true (List.all_eq_true.1 hsz _ (DataW.weights_mem_each (j := 0) rfl rfl n hn))) h0
  obtain ⟨a1, rfl, rfl, rfl, w1⟩ := open_int Try.underlying22 (hval 1 22 v1 rfl rfl) h1
  have hA2 := hA0
  clear hA0 hval0 hsz0
  simp only [List.append_nil] at hW'
  refine (walk rl0 rb0 ra0 rL0 rc0 rz0 rk0 rm0 rs0 a1 w1 W rS0).mono fun e W' ⟨he, bel⟩ => ?_
  subst he
  exact ⟨_, rfl, _, _, _, [], _, [], hW', trodAll_mk1 (shut_bool Try.underlying4 _), (stays_all laidOut bel (by kernel_rfl) hA2), rfl, bel.frame _, fun h => by cases h⟩

theorem over : Rows.rosterStaysRow.holds Try.pinned (OpenSpec.ofChange Rows.rosterStaysSpec) :=
  OpenClaim.holds_of_wide 5 Try.f5 rfl rfl rfl rfl rfl rfl rfl ⟨rfl, rfl, rfl, rfl, rfl⟩ rfl rfl rfl rfl rfl (by kernel_rfl) Try.func5 (by kernel_rfl)
    (of_decide_eq_true (by kernel_rfl)) (by unfold Func.isWrapper; first | (rw [if_pos (by decide +kernel)]; kernel_rfl) | (rw [if_neg (by decide +kernel)]; exact ⟨rfl, rfl⟩))
    (fun os started H enc _ => lifted os started H enc)

end Go.Proofs.Ythhloomoiihfnaa.rosterStays
namespace Go.Proofs.Ythhloomoiihfnaa

theorem rosterStays_holds : Rows.RosterStaysSaid := rosterStays.over
#print axioms rosterStays_holds

end Go.Proofs.Ythhloomoiihfnaa
