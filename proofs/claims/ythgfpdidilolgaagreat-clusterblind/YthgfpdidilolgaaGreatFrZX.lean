/-
  Of the texts beneath these laws, in their order: FrZ.
  Each theorem says its own conditions.
-/
import Derived.Test.YthgfpdidilolgaaGreatZ04
import Derived.Test.YthgfpdidilolgaaGreatZ00
namespace Go.Proofs.YthgfpdidilolgaaGreat
set_option maxRecDepth 10000
open Go.ChangeShapes Go.WideShapes Go.ChangeAt Go.RowKit Go.WideElems Go.Sort
section
variable {H : Type} {enc : TypeId × Value → H} {W : World} {base : Nat} {spare : Nat → Bool} {held : Bool}
theorem cellsFr2 {cs : List Value} {fuel : Nat} {x : DataW H × List MemPlace} (h : DataW.trod enc Tryz.prog W base spare held fuel 43 cs = some x) : ∃ e : Nat → En, cs = frv e := fr_cells rfl h
theorem open_frs2 {v : Value} {d : DataW H} {p : List MemPlace} (hv : ∃ a n c, v = .slice a n c) (h : DataW.Trod enc Tryz.prog W base spare held 68 v d p) :
  ∃ (a : Option Addr) (L : List (Nat → En)) (c : Nat), v = .slice a L.length c ∧ L.length ≤ maxLen ∧ Li frv 0 a L W :=
 open_li noFr frv_length (by decide) Tryz.underlying68 (by kernel_rfl) cellsFr2 hv h
end
end Go.Proofs.YthgfpdidilolgaaGreat
