/-
  Whether two entries are the same: what the comparison of two of them answers.
  No condition.
-/
import Derived.Test.YtmbddjejbmjmfaaPackWe
import Derived.Test.YtmbddjejbmjmfaaEntMath
namespace Go.Proofs.Ytmbddjejbmjmfaa
set_option maxRecDepth 10000
open Go.RowKit

theorem equal_ent (k sv g : Int) (se n : Int) (t : ByteArray) (k' sv' g' : Int) (se' n' : Int) (t' : ByteArray) (w : World) :
    (Op.equal 30 (.agg #[.int .i64 k, .int .i64 sv, .int .i64 g, .int .u64 se, .int .u64 n, .string t]) (.agg #[.int .i64 k', .int .i64 sv', .int .i64 g', .int .u64 se', .int .u64 n', .string t'])).run Try.prog w
      = .ok (decide (k = k' ∧ sv = sv' ∧ g = g' ∧ se = se' ∧ n = n' ∧ t = t')) w := by
  by_cases h1 : k = k'
  · by_cases h2 : sv = sv'
    · by_cases h3 : g = g'
      · by_cases h4 : se = se'
        · by_cases h5 : n = n'
          · by_cases h6 : t = t'
            · simp [go_sem, Op.equal, Op.maxDepth, *]
            · simp [go_sem, Op.equal, Op.maxDepth, *]
              intro e
              have := bytes_ne h6
              rw [e, beq_self_eq_true] at this
              cases this
          · simp [go_sem, Op.equal, Op.maxDepth, *]
        · simp [go_sem, Op.equal, Op.maxDepth, *]
      · simp [go_sem, Op.equal, Op.maxDepth, *]
    · simp [go_sem, Op.equal, Op.maxDepth, *]
  · simp [go_sem, Op.equal, Op.maxDepth, *]

theorem eql_ent (k sv g : Int) (se n : Int) (t : ByteArray) (k' sv' g' : Int) (se' n' : Int) (t' : ByteArray) (b : Bool) (h : decide (k = k' ∧ sv = sv' ∧ g = g' ∧ se = se' ∧ n = n' ∧ t = t') = b) (w : World) :
    (binOp .eql 30 (.agg #[.int .i64 k, .int .i64 sv, .int .i64 g, .int .u64 se, .int .u64 n, .string t]) (.agg #[.int .i64 k', .int .i64 sv', .int .i64 g', .int .u64 se', .int .u64 n', .string t'])).run Try.prog w
      = .ok (.bool b) w := by
  simp only [binOp]
  simp [equal_ent, h]
theorem neq_ent (k sv g : Int) (se n : Int) (t : ByteArray) (k' sv' g' : Int) (se' n' : Int) (t' : ByteArray) (b : Bool) (h : decide (k = k' ∧ sv = sv' ∧ g = g' ∧ se = se' ∧ n = n' ∧ t = t') = b) (w : World) :
    (binOp .neq 30 (.agg #[.int .i64 k, .int .i64 sv, .int .i64 g, .int .u64 se, .int .u64 n, .string t]) (.agg #[.int .i64 k', .int .i64 sv', .int .i64 g', .int .u64 se', .int .u64 n', .string t'])).run Try.prog w
      = .ok (.bool (!b)) w := by
  simp only [binOp]
  simp [equal_ent, h]

end Go.Proofs.Ytmbddjejbmjmfaa
