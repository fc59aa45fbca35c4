/-
  An entry as an argument: its six fields, read as data, and back.
  No condition.
-/
import Derived.Test.YtmbddjejbmjmfaaProg
import Derived.WalkKit
import Derived.ProofKit
import Derived.OpenShut
import Derived.ShutString
import Derived.SizedLaws
import Derived.ChangeOld
namespace Go.Proofs.Ytmbddjejbmjmfaa
set_option maxRecDepth 10000
open Go.ChangeShapes Go.WideShapes Go.ChangeAt Go.RowKit

section
variable {H : Type} {enc : TypeId × Value → H} {W : World} {base : Nat} {spare : Nat → Bool} {held : Bool}

theorem array6 {T : Array Value} (h : T.size = 6) : ∃ a b c d e f, T = #[a, b, c, d, e, f] := by
  obtain ⟨l⟩ := T
  match l, h with
  | [a, b, c, d, e, f], _ => exact ⟨a, b, c, d, e, f, rfl⟩

theorem open_ent {r : Reach} {b0 : Nat} {v : Value} {d : DataW H} {p : List MemPlace}
    (hv : Value.okWide Try.prog W r b0 30 v) (h : DataW.Trod enc Try.prog W base spare held 30 v d p) :
    ∃ (k sv g se n : Int) (t : ByteArray), v = .agg #[.int .i64 k, .int .i64 sv, .int .i64 g, .int .u64 se, .int .u64 n, .string t] ∧
      d = .agg [.lit (.int .i64 k), .lit (.int .i64 sv), .lit (.int .i64 g), .lit (.int .u64 se), .lit (.int .u64 n), .lit (.string t.data.toList)] ∧ p = [] ∧
      (Lit.int .i64 k).wf = true ∧ (Lit.int .i64 sv).wf = true ∧ (Lit.int .i64 g).wf = true ∧ (Lit.int .u64 se).wf = true ∧ (Lit.int .u64 n).wf = true ∧ t.size ≤ maxLen := by
  have hC : Try.prog.cellsOf 30 = 6 := by kernel_rfl
  have h3 : Try.prog.cellsOf 3 = 1 := by kernel_rfl
  have h22 : Try.prog.cellsOf 28 = 1 := by kernel_rfl
  have h9 : Try.prog.cellsOf 9 = 1 := by kernel_rfl
  obtain ⟨cs, rfl, hsz⟩ := okWide_struct Try.underlying30 hv
  obtain ⟨c0, c1, c2, c3, c4, c5, rfl⟩ := array6 (hsz.trans hC)
  obtain ⟨fuel, hf⟩ := h
  obtain ⟨xs, m, _, hx, _, hl, hg⟩ := DataW.trod_struct Try.underlying30 hf
  match xs, hl with
  | [y0, y1, y2, y3, y4, y5], _ =>
    have g0 := hg 0 _ rfl
    have g1 := hg 1 _ rfl
    have g2 := hg 2 _ rfl
    have g3 := hg 3 _ rfl
    have g4 := hg 4 _ rfl
    have g5 := hg 5 _ rfl
    simp [Value.cells, h3, h22, h9] at g0 g1 g2 g3 g4 g5
    obtain ⟨k, e0, f0, w0⟩ := DataW.trod_int Try.underlying3 g0
    obtain ⟨sv, e1, f1, w1⟩ := DataW.trod_int Try.underlying3 g1
    obtain ⟨g, e2, f2, w2⟩ := DataW.trod_int Try.underlying3 g2
    obtain ⟨se, e3, f3, w3⟩ := DataW.trod_int Try.underlying28 g3
    obtain ⟨n, e4, f4, w4⟩ := DataW.trod_int Try.underlying28 g4
    obtain ⟨t, e5, f5, w5⟩ := DataW.trod_string Try.underlying9 g5
    simp at e0 e1 e2 e3 e4 e5
    subst e0 e1 e2 e3 e4 e5 f0 f1 f2 f3 f4 f5
    simp only [Prod.mk.injEq] at hx
    exact ⟨k, sv, g, se, n, t, rfl, by simpa using hx.1, by simpa using hx.2, w0, w1, w2, w3, w4, w5⟩

theorem shut_ent {k sv g se n : Int} {t : ByteArray} (w0 : (Lit.int .i64 k).wf = true) (w1 : (Lit.int .i64 sv).wf = true) (w2 : (Lit.int .i64 g).wf = true) (w3 : (Lit.int .u64 se).wf = true) (w4 : (Lit.int .u64 n).wf = true) (w5 : t.size ≤ maxLen) :
    DataW.Trod enc Try.prog W base spare held 30 (.agg #[.int .i64 k, .int .i64 sv, .int .i64 g, .int .u64 se, .int .u64 n, .string t])
      (.agg [.lit (.int .i64 k), .lit (.int .i64 sv), .lit (.int .i64 g), .lit (.int .u64 se), .lit (.int .u64 n), .lit (.string t.data.toList)]) [] := by
  have hC : Try.prog.cellsOf 30 = 6 := by kernel_rfl
  have h3 : Try.prog.cellsOf 3 = 1 := by kernel_rfl
  have h22 : Try.prog.cellsOf 28 = 1 := by kernel_rfl
  have h9 : Try.prog.cellsOf 9 = 1 := by kernel_rfl
  refine ⟨2, ?_⟩
  have h := trod_struct_mk (enc := enc) (w := W) (base := base) (spare := spare) (held := held) (n := 1)
    (xs := [(.lit (.int .i64 k), []), (.lit (.int .i64 sv), []), (.lit (.int .i64 g), []), (.lit (.int .u64 se), []), (.lit (.int .u64 n), []), (.lit (.string t.data.toList), [])])
    (cs := [.int .i64 k, .int .i64 sv, .int .i64 g, .int .u64 se, .int .u64 n, .string t]) Try.underlying30 (by rw [hC]; rfl)
    (by simp [DataW.trod, Try.underlying3, Try.underlying28, Try.underlying9, h3, h22, h9, w0, w1, w2, w3, w4, w5])
  simpa [Value.cells] using h

theorem sized_ent {ts : List TypeId} {ds : List (DataW H)} (h : (DataW.weightsEach Try.prog ts ds).all (· ≤ reachBytes) = true) {j : Nat} {a b c d e : DataW H} {x : List UInt8} (ht : ts[j]? = some 30) (hd : ds[j]? = some (.agg [a, b, c, d, e, .lit (.string x)])) :
    x.length ≤ reachBytes := by
  have h1 := List.all_eq_true.1 h _ (DataW.weights_mem_each ht hd x.length (by simp [DataW.weights, DataW.weightsEach, Try.underlying30]))
  simpa using h1
end

theorem u64_nat {n : Int} (h : (Lit.int .u64 n).wf = true) : ∃ x : Nat, n = (x : Int) ∧ x < 18446744073709551616 := by
  have hb := bounds_u64 h
  exact ⟨n.toNat, by omega, by omega⟩

end Go.Proofs.Ytmbddjejbmjmfaa
