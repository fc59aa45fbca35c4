/-
  What the variables of the library hold where the call begins.
  No condition.
-/
import Derived.Test.YtehmcncclpimjaaDoorAuG
import Derived.Test.YtehmcncclpimjaaDoorAuN
import Derived.Stop.LaidErr
import Derived.LaidLaws
import Derived.Shelf.Vars
namespace Go.Proofs.YtehmcncclpimjaaDoor
set_option maxRecDepth 10000
open Go.RowKit Go.Sort Go.ChangeShapes
set_option linter.unusedVariables false
set_option linter.unusedSimpArgs false

theorem mx_of {W : World} (h : W.ShapedOpen Tryd.prog) : ∃ m, W.cell? ⟨4, 0, none⟩ = some (.int .i64 m) :=
  Go.Proofs.cell_of_shapedOpen_int (zero := #[.int .i64 0]) (t := 3) h (of_decide_eq_true (by kernel_rfl)) (by kernel_rfl) rfl (by kernel_rfl) (by kernel_rfl) Tryd.underlying3
theorem err_row (u : TypeId) (hu : Tryd.prog.typeName? 3 u = some "*errors.errorString") : u = 120 :=
  typeName_ptr_named (nm := "errors.errorString") (by kernel_rfl) (by kernel_rfl) (by decide) u hu
theorem te_of {W : World} (hsh : W.ShapedOpen Tryd.prog) {r : List (String × DataW Unit)} (h : laidMet Tryd.prog (("math/bits.deBruijn32tab", Rows.laid_math_bits_deBruijn32tab) :: ("math/bits.deBruijn64tab", Rows.laid_math_bits_deBruijn64tab) :: ("internal/strconv.uint64pow10", Rows.laid_internal_strconv_uint64pow10) :: ("unicode/utf8.acceptRanges", Rows.laid_unicode_utf8_acceptRanges) :: ("strconv.ErrRange", Rows.laid_strconv_ErrRange) :: ("strconv.ErrSyntax", Rows.laid_strconv_ErrSyntax) :: r) W) : Te W := by
  have hr := h.tail.tail.tail.tail
  have hs := hr.tail
  obtain ⟨a1, s1, v1, _⟩ := laid_sentinel hr (g := 1) (ti := 67) (tp := 120) (te := 122) (by kernel_rfl) (by kernel_rfl) Tryd.underlying67 err_row Tryd.underlying120 Tryd.underlying122 rfl rfl Tryd.underlying9 (by kernel_rfl) (by kernel_rfl)
  obtain ⟨a0, s0, v0, _⟩ := laid_sentinel hs (g := 0) (ti := 67) (tp := 120) (te := 122) (by kernel_rfl) (by kernel_rfl) Tryd.underlying67 err_row Tryd.underlying120 Tryd.underlying122 rfl rfl Tryd.underlying9 (by kernel_rfl) (by kernel_rfl)
  exact ⟨tb_of h, mx_of hsh, ⟨_, _, World.var?_cell (P := Tryd.prog) (n := "strconv.ErrSyntax") (by kernel_rfl) v0 0⟩, ⟨_, _, World.var?_cell (P := Tryd.prog) (n := "strconv.ErrRange") (by kernel_rfl) v1 0⟩⟩

end Go.Proofs.YtehmcncclpimjaaDoor
