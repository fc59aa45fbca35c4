/-
  Two numbers as an argument; what is handed to the program's calls, for its laws.
  No condition.
-/
import Derived.Test.YtkppidcamhbddaaScF
import Derived.Test.YtkppidcamhbddaaScU
namespace Go.Proofs.Ytkppidcamhbddaa
set_option maxRecDepth 10000
open Go.ChangeShapes Go.WideShapes Go.ChangeAt Go.RowKit Go.WideElems Go.Sort
set_option linter.unusedVariables false

def twc (n m : Int) : Array Value := #[.int .i64 n, .int .i64 m]
section
variable {H : Type} {enc : TypeId × Value → H} {W : World} {base : Nat} {spare : Nat → Bool} {held : Bool}
theorem i64_cell {l : List Value} {fuel : Nat} {o : Option (DataW H × List MemPlace)} (ho : o.isSome = true) (h : DataW.trod enc Try.prog W base spare held fuel 3 l = o) : ∃ x : Int, l = [.int .i64 x] := by
  obtain ⟨y, rfl⟩ := Option.isSome_iff_exists.1 ho
  obtain ⟨k, e, _, hw⟩ := DataW.trod_int Try.underlying3 h
  exact ⟨k, e⟩
theorem agg_two {cs : Array Value} {l : List Value} (e : (Value.agg cs).cells.toList = l) : Value.agg cs = .agg l.toArray := by
  subst e
  simp [Value.cells]
theorem open_two {v : Value} {d : DataW H} {p : List MemPlace} (hv : ∃ cs, v = .agg cs) (h : DataW.Trod enc Try.prog W base spare held 38 v d p) : ∃ n m : Int, v = .agg (twc n m) := by
  obtain ⟨cs, rfl⟩ := hv
  obtain ⟨fuel, hf⟩ := h
  generalize hl : (Value.agg cs).cells.toList = l at hf
  have hC : Try.prog.cellsOf 38 = 2 := by kernel_rfl
  have h1 : Try.prog.cellsOf 3 = 1 := by kernel_rfl
  obtain ⟨xs, k, _, _, hlen, hx, hg⟩ := DataW.trod_array Try.underlying38 hf
  rw [hC] at hlen
  obtain ⟨n, e0⟩ := i64_cell (by rw [List.getElem?_eq_getElem (by omega)]; rfl) (hg 0 (by omega))
  obtain ⟨m, e1⟩ := i64_cell (by rw [List.getElem?_eq_getElem (by omega)]; rfl) (hg 1 (by omega))
  rw [h1] at e0 e1
  simp only [Nat.zero_mul, Nat.one_mul] at e0 e1
  match l, hlen with
  | [a, b], _ =>
    simp at e0 e1
    subst e0 e1
    exact ⟨n, m, agg_two hl⟩
end

theorem turnV_ex (o : Option Nat) : ∃ (i : Nat) (b : Bool), turnV o = .tuple #[.int .i64 (i : Int), .bool b] := ⟨_, _, rfl⟩
theorem fit_ses {L : List En} (h : ∀ x ∈ L, x.fit) : FitS L := fun x hx => (h x hx).2.2.2.1

end Go.Proofs.Ytkppidcamhbddaa
