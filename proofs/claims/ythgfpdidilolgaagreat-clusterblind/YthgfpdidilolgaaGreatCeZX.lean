/-
  Of the texts beneath these laws, in their order: CeZ.
  Each theorem says its own conditions.
-/
import Derived.Test.YthgfpdidilolgaaGreatZ04
import Derived.Test.YthgfpdidilolgaaGreatZ00
namespace Go.RowKit
theorem Below.below {u w w' : World} (h : Below u.heap.size u w) (hb : Below w.heap.size w w') : Below u.heap.size u w' := h.trans (hb.mono h.size)
end Go.RowKit
namespace Go.Proofs.YthgfpdidilolgaaGreat
set_option maxRecDepth 10000
open Go.ChangeShapes Go.WideShapes Go.ChangeAt Go.RowKit Go.WideElems Go.Sort
theorem below_kp {b : Nat} {u w w' : World} (h : Below u.heap.size u w) (hk : Kp [b] w w') (hb : u.heap.size ≤ b) : Below u.heap.size u w' := h.trans (hk.below1 hb h.size)
theorem Li.cel {α : Type} {f : α → List Value} {k : Nat} (hk : ∀ x, (f x).length = k) {B b o : Nat} {L : List α} {w : World} (h : Li f B (some ⟨b, o, none⟩) L w) (i : Nat) (x : α) (hx : L[i]? = some x) (j : Nat) (v : Value) (hv : (f x)[j]? = some v) : w.cell? ⟨b, o + i * k + j, none⟩ = some v := h.rng hk i x hx j v hv
section
variable {H : Type} {enc : TypeId × Value → H} {W : World} {base : Nat} {spare : Nat → Bool} {held : Bool}
end
end Go.Proofs.YthgfpdidilolgaaGreat
