/-
  One of eight numbers written; a struct or an array compared with itself.
  No condition.
-/
import Derived.Test.YtbmhfnallpcmpaaMb
namespace Go.Proofs.Ytbmhfnallpcmpaa
set_option maxRecDepth 10000
open Go.ChangeShapes Go.WideShapes Go.ChangeAt Go.RowKit Go.WideElems Go.Sort

def put8 (f : Nat → Nat) (i v : Nat) : Nat → Nat := fun j => if j = i then v else f j
theorem mbc_put (f : Nat → Nat) (i v : Nat) (h : i < 8) : (mbc f).setIfInBounds i (.int .u32 (v : Int)) = mbc (put8 f i v) := mbc_set f i v h

theorem fields_same (d : Nat) (xs : Array Value) (w : World) : ∀ fs : List Field, (∀ f ∈ fs, f.name ≠ "_" ∧ ∃ v, (Go.part f.type xs f.offset).run Try.prog w = .ok v w ∧ (Op.equalIn d f.type v v).run Try.prog w = .ok true w) → (Op.eqFields d xs xs fs).run Try.prog w = .ok true w
  | [], _ => rfl
  | f :: fs, h => by
    obtain ⟨hn, v, h1, h2⟩ := h f (by simp)
    have ih := fields_same d xs w fs (fun g hg => h g (by simp [hg]))
    simp only [Op.eqFields, hn, ne_eq, not_false_eq_true, if_true, Sem.run_bind, h1, h2, Result.andThen_ok]
    simpa using ih
theorem items_same (d : Nat) (T : TypeId) (n : Nat) (xs : Array Value) (w : World) : ∀ is : List Nat, (∀ i ∈ is, ∃ v, (Go.part T xs (i * n)).run Try.prog w = .ok v w ∧ (Op.equalIn d T v v).run Try.prog w = .ok true w) → (Op.eqItems d T n xs xs is).run Try.prog w = .ok true w
  | [], _ => rfl
  | i :: is, h => by
    obtain ⟨v, h1, h2⟩ := h i (by simp)
    have ih := items_same d T n xs w is (fun j hj => h j (by simp [hj]))
    simp only [Op.eqItems, Sem.run_bind, h1, h2, Result.andThen_ok]
    simpa using ih

end Go.Proofs.Ytbmhfnallpcmpaa
