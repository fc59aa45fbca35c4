/-
  Of the texts beneath these laws, in their order: ClT.
  Each theorem says its own conditions.
-/
import Derived.Test.YthgfpdidilolgaaGreatZ33
namespace Go.Proofs.YthgfpdidilolgaaGreat
set_option maxRecDepth 10000
set_option linter.unusedSimpArgs false
open Go.RowKit Go.Sort
set_option linter.unusedVariables false
def plv (n wt : Int) (v : Value) : Array Value := #[.int .i64 n, .int .i64 wt, v]
end Go.Proofs.YthgfpdidilolgaaGreat
