/-
  The sum of a text and one byte more is one step more, and a step is one to one: the law CrcSteps returns true for every input.
  No condition beyond the form's own.
-/
import Derived.Test.YtbkhenooimjcfaaRows
import Derived.Test.YtbkhenooimjcfaaWd
import Derived.WalkKit
import Derived.Deep.QuietTactic
import Derived.BigQuiet
import Derived.ProofKit
import Derived.OpenShut
import Derived.ShutString
import Derived.SizedLaws
import Derived.ChangeOld
import Derived.Below
namespace Go.Proofs.Ytbkhenooimjcfaa.crcSteps
open Go.ChangeShapes Go.WideShapes Go.ChangeAt Go.RowKit
open Go.ChangeMaps (open_string shut_string)
set_option linter.unusedVariables false

theorem own : ownKnob Try.prog.godebug = none := by kernel_rfl
theorem length_bytes (s : ByteArray) : s.data.toList.length = s.size := by rw [Array.length_toList]; rfl

theorem ret_bool {b : Bool} (h : b = true) : Ending.returned (.bool b) = .returned (.bool true) := by rw [h]

section
variable {H : Type} {enc : TypeId × Value → H} {P : Program} {W : World} {base : Nat} {spare : Nat → Bool} {held : Bool}
theorem okWide_array {n : Nat} {e t : TypeId} {r : Reach} {b0 : Nat} {v : Value} (ht : P.underlying t = some (.array n e)) (h : Value.okWide P W r b0 t v) : ∃ cs, v = .agg cs ∧ cs.size = P.cellsOf t := by
  simp only [Value.okWide, ht] at h
  obtain ⟨cs, h1, h2, _⟩ := h
  exact ⟨cs, h1, h2⟩
theorem array2 {T : Array Value} (h : T.size = 2) : ∃ a b, T = #[a, b] := by
  obtain ⟨l⟩ := T
  match l, h with
  | [a, b], _ => exact ⟨a, b, rfl⟩
theorem open_pair {r : Reach} {b0 : Nat} {e t : TypeId} {k : IntKind} {v : Value} {d : DataW H} {p : List MemPlace} (ht : P.underlying t = some (.array 2 e)) (he : P.underlying e = some (.int k)) (hC : P.cellsOf t = 2) (hE : P.cellsOf e = 1)
    (hv : Value.okWide P W r b0 t v) (h : DataW.Trod enc P W base spare held t v d p) :
    ∃ x y : Int, v = .agg #[.int k x, .int k y] ∧ d = .agg [.lit (.int k x), .lit (.int k y)] ∧ p = [] ∧ (Lit.int k x).wf = true ∧ (Lit.int k y).wf = true := by
  obtain ⟨cs, rfl, hsz⟩ := okWide_array ht hv
  obtain ⟨c0, c1, rfl⟩ := array2 (hsz.trans hC)
  obtain ⟨fuel, hf⟩ := h
  obtain ⟨xs, m, _, hx, _, hl, hg⟩ := DataW.trod_array ht hf
  match xs, hl with
  | [y0, y1], _ =>
    have g0 := hg 0 (by omega)
    have g1 := hg 1 (by omega)
    simp [Value.cells, hE] at g0 g1
    obtain ⟨a, e0, f0, wa⟩ := DataW.trod_int he g0
    obtain ⟨b, e1, f1, wb⟩ := DataW.trod_int he g1
    simp at e0 e1
    subst e0 e1 f0 f1
    simp only [Prod.mk.injEq] at hx
    exact ⟨a, b, rfl, by simpa using hx.1, by simpa using hx.2, wa, wb⟩
theorem shut_pair {e t : TypeId} {k : IntKind} {x y : Int} (ht : P.underlying t = some (.array 2 e)) (he : P.underlying e = some (.int k)) (hC : P.cellsOf t = 2) (hE : P.cellsOf e = 1) (wx : (Lit.int k x).wf = true) (wy : (Lit.int k y).wf = true) :
    DataW.Trod enc P W base spare held t (.agg #[.int k x, .int k y]) (.agg [.lit (.int k x), .lit (.int k y)]) [] := by
  refine ⟨2, ?_⟩
  simp [DataW.trod, ht, he, hC, hE, wx, wy, Value.cells, List.range, List.range.loop]
end

theorem u32_of (n : Int) (h : (Lit.int .u32 n).wf = true) : ∃ x : BitVec 32, n = (x.toNat : Int) := by
  have hb := bounds_u32 h
  refine ⟨BitVec.ofNat 32 n.toNat, ?_⟩
  rw [BitVec.toNat_ofNat]
  omega
theorem u8_of (n : Int) (h : (Lit.int .u8 n).wf = true) : ∃ x : UInt8, n = (x.toNat : Int) := by
  have hb := bounds_u8 h
  refine ⟨UInt8.ofNat n.toNat, ?_⟩
  rw [UInt8.toNat_ofNat']
  omega

theorem conv_one (b : UInt8) (w : World) :
    (convert 30 9 (.slice (some ⟨w.heap.size, 0, none⟩) 1 1)).run Try.prog (w.alloc (.cells #[.int .u8 (b.toNat : Int)] 5)) = .ok (.string ⟨#[b]⟩) (w.alloc (.cells #[.int .u8 (b.toNat : Int)] 5)) := by
  have h := run_convert_bytes_arg (P := Try.prog) (w.alloc (.cells #[.int .u8 (b.toNat : Int)] 5)) 30 5 Try.underlying30 Try.underlying5 w.heap.size 0 1 1 [(b.toNat : Int)] rfl ?_ 9 Try.underlying9
  · rw [h]
    simp [strOfNums]
  · intro i hi
    obtain rfl : i = 0 := by omega
    simp [go_sem]
def inv (a : BitVec 32) : BitVec 32 := ~~~ a
theorem not_max (a : BitVec 32) : bits .xor .u32 IntKind.u32.max (a.toNat : Int) = ((inv a).toNat : Int) := Crc.not32 a
theorem sum_snoc (s : ByteArray) (b : UInt8) : Crc.sum (s.data.toList ++ [b]) = inv (Crc.step (inv (Crc.sum s.data.toList)) b) := by
  unfold Crc.sum inv
  rw [Crc.run_snoc, BitVec.not_not]
theorem snoc_eq (s : ByteArray) (b : UInt8) : (((Crc.sum (s.data.toList ++ [b])).toNat : Int) == ((inv (Crc.step (inv (Crc.sum s.data.toList)) b)).toNat : Int)) = true := by
  rw [sum_snoc]; simp
theorem fin_eq (b : UInt8) (x y : BitVec 32) : ((((Crc.step x b).toNat : Int) == ((Crc.step y b).toNat : Int)) == ((x.toNat : Int) == (y.toNat : Int))) = true := by
  by_cases e : x = y
  · subst e; simp
  · have h1 : ((x.toNat : Int) == (y.toNat : Int)) = false := by
      rw [beq_eq_false_iff_ne]; intro h; exact e (BitVec.eq_of_toNat_eq (by omega))
    have h2 : (((Crc.step x b).toNat : Int) == ((Crc.step y b).toNat : Int)) = false := by
      rw [beq_eq_false_iff_ne]; intro h; exact e (Crc.step_inj x y b (BitVec.eq_of_toNat_eq (by omega)))
    rw [h1, h2]; rfl
theorem below_draws' {B : Nat} {a w : World} (h : Below B a w) {n : Nat} : Below B a (w.drewN n) := ⟨h.os, h.tape, h.output, h.size, h.block⟩

set_option maxHeartbeats 400000 in
theorem walk (s : ByteArray) (hs : s.size ≤ 140737488351232) (b0 : Int) (hb0 : (Lit.int .u8 b0).wf = true) (x0 : Int) (hx0 : (Lit.int .u32 x0).wf = true) (y0 : Int) (hy0 : (Lit.int .u32 y0).wf = true) (w : World) :
    Calls Try.prog 4 #[.string s, .int .u8 b0, .agg #[.int .u32 x0, .int .u32 y0]] w fun e w' => e = .returned (.bool true) ∧ Below w.heap.size w w' := by
  obtain ⟨b, rfl⟩ := u8_of b0 hb0
  obtain ⟨x, rfl⟩ := u32_of x0 hx0
  obtain ⟨y, rfl⟩ := u32_of y0 hy0
  clear hb0 hx0 hy0
  go_enter Try.func4, Try.ntmps4
  go_wp2_with fail
  go_quiet (fail)
  go_wp2_with fail
  refine (fixed_any _).mono ?_
  rintro e w1 ⟨rfl, hb1⟩
  have kc := conv_one b w1
  have h1 : (s ++ ⟨#[b]⟩ : ByteArray).size = s.size + 1 := by simp; rfl
  have hn := not_max (Crc.sum s.data.toList)
  have hz : w.heap.size ≤ w1.heap.size := by have := hb1.size; simp at this; omega
  go_wp2_with fail
  refine (of_any _ _ (by rw [h1]; unfold maxLen; omega)).mono ?_
  rintro e w2 ⟨rfl, rfl⟩
  go_wp2_with fail
  refine (of_any _ _ (by unfold maxLen; omega)).mono ?_
  rintro e w2 ⟨rfl, rfl⟩
  go_wp2_with fail
  refine (step_any _ _ _).mono ?_
  rintro e w2 ⟨rfl, rfl⟩
  have hn2 := not_max (Crc.step (inv (Crc.sum s.data.toList)) b)
  have hq := snoc_eq s b
  go_wp2_with fail
  refine (step_any _ _ _).mono ?_
  rintro e w2 ⟨rfl, rfl⟩
  go_wp2_with fail
  refine (step_any _ _ _).mono ?_
  rintro e w2 ⟨rfl, rfl⟩
  go_wp2_with fail
  go_ret
  refine ⟨ret_bool (fin_eq b x y), ?_⟩
  have hb2 := hb1.mono (show w.heap.size ≤ _ from by simp)
  have hb3 : Below w.heap.size w ((w.alloc (Obj.cells #[Value.int IntKind.u32 ↑x.toNat, Value.int IntKind.u32 ↑y.toNat] 29)).drewN nq) := below_draws' ((Below.refl _ _).alloc (Nat.le_refl _) _)
  exact (hb3.trans hb2).alloc hz _


set_option maxRecDepth 100000 in
theorem lifted (os : Os) (started : os.Started) (H : Type) (enc : TypeId × Value → H) :
    ReturnsInHanded {} Try.checked os 4 .any (Rows.crcStepsSpec.pre6 enc Try.prog Try.f4 Rows.crcStepsRow.domain false) (Rows.crcStepsSpec.post enc Try.prog Try.f4 false true false false) := by
  refine returnsInHanded_of_change_sized (C := Try.checked) own started (by kernel_rfl) Try.func4
    (ChangeSpec.witness6 (enc := enc) (C := Try.checked) false ⟨#[], #[.string ByteArray.empty, .int .u8 0, .agg #[.int .u32 0, .int .u32 0]], []⟩ 8 (by kernel_rfl) (by kernel_rfl) (by kernel_rfl) (by kernel_rfl)) ?_
  intro W base args ds gs before hval0 hW hcnd hsz0 _
  have hval : ∀ (j : Nat) t v, Try.f4.params[j]? = some t → args[j]? = some v → Value.okWide Try.prog W .any base t v := hval0
  have hsz : (DataW.weightsEach Try.prog (Try.f4.params.toList ++ Rows.crcStepsSpec.plain.varTypes Try.prog) (ds ++ gs)).all (· ≤ reachBytes) = true := hsz0
  have hW' := hW
  obtain ⟨p, q, hA0, hV, rfl, hfz, hnd⟩ := hW
  have hA : DataW.TrodAll enc Try.prog W 0 (fun _ => true) true Try.f4.params.toList args.toList ds p := hA0
  rw [Try.params4] at hA hval hsz
  obtain ⟨v0, vs0, d0, ds0, p0, q0, hargs, rfl, rfl, h0, r0⟩ := trodAll_cons hA
  obtain ⟨v1, vs1, d1, ds1, p1, q1, rfl, rfl, rfl, h1, r1⟩ := trodAll_cons r0
  obtain ⟨v2, vs2, d2, ds2, p2, q2, rfl, rfl, rfl, h2, r2⟩ := trodAll_cons r1
  obtain ⟨rfl, rfl, rfl⟩ := trodAll_nil r2
  obtain rfl : args = #[v0, v1, v2] := by cases args; simp_all
  obtain ⟨rfl, rfl⟩ := trodVars_none hV
  obtain ⟨a0, rfl, rfl, rfl, w0⟩ := open_string Try.underlying9 (hval 0 9 v0 rfl rfl) h0
  have z0 : a0.size ≤ 140737488351232 := by
    have hz := sized_string hsz (j := 0) (t := 9) rfl rfl
    rw [length_bytes] at hz
    exact hz
  obtain ⟨a1, rfl, rfl, rfl, w1⟩ := open_int Try.underlying5 (hval 1 5 v1 rfl rfl) h1
  obtain ⟨a2, b2, rfl, rfl, rfl, w2, u2⟩ := open_pair Try.underlying29 Try.underlying22 (by kernel_rfl) (by kernel_rfl) (hval 2 29 v2 rfl rfl) h2
  clear hA0 hval0 hsz0
  simp only [List.append_nil] at hW'
  refine (walk a0 z0 a1 w1 a2 w2 b2 u2 W).mono fun e W' ⟨he, bel⟩ => ?_
  subst he
  exact ⟨_, rfl, _, _, _, [], [], [], hW', trodAll_mk1 (shut_bool Try.underlying4 _), (trodAll_cons_mk (shut_string Try.underlying9 w0) (trodAll_cons_mk (shut_int Try.underlying5 w1) (trodAll_cons_mk (shut_pair Try.underlying29 Try.underlying22 (by kernel_rfl) (by kernel_rfl) w2 u2) trodAll_mk0))), rfl, bel.frame _, fun h => by cases h⟩

theorem over : Rows.crcStepsRow.holds Try.pinned (OpenSpec.ofChange Rows.crcStepsSpec) :=
  OpenClaim.holds_of_wide 4 Try.f4 rfl rfl rfl rfl rfl rfl rfl ⟨rfl, rfl, rfl, rfl, rfl⟩ rfl rfl rfl rfl rfl (by kernel_rfl) Try.func4 (by kernel_rfl)
    (of_decide_eq_true (by kernel_rfl)) (by unfold Func.isWrapper; first | (rw [if_pos (by decide +kernel)]; kernel_rfl) | (rw [if_neg (by decide +kernel)]; exact ⟨rfl, rfl⟩))
    (fun os started H enc _ => lifted os started H enc)

end Go.Proofs.Ytbkhenooimjcfaa.crcSteps
namespace Go.Proofs.Ytbkhenooimjcfaa

theorem crcSteps_holds : Rows.CrcStepsSaid := crcSteps.over
#print axioms crcSteps_holds

end Go.Proofs.Ytbkhenooimjcfaa
