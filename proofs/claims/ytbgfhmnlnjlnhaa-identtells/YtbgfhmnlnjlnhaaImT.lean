/-
  Members, others, a daemon and an incarnation as an argument.
  No condition.
-/
import Derived.Test.YtbgfhmnlnjlnhaaImS
namespace Go.Proofs.Ytbgfhmnlnjlnhaa
set_option maxRecDepth 10000
open Go.ChangeShapes Go.WideShapes Go.ChangeAt Go.RowKit Go.WideElems Go.Sort

def twol (m n : Nat → Nat) (i : Int) (c : Nat) : List Value := row8 m ++ (row8 n ++ [.int .i64 i, .int .u32 (c : Int)])
def twoc (m n : Nat → Nat) (i : Int) (c : Nat) : Array Value := (twol m n i c).toArray
theorem two_m (m n : Nat → Nat) (i : Int) (c : Nat) : ((twoc m n i c).extract 0 (0 + (row8 m).length)).toList = row8 m := by kernel_rfl
theorem two_n (m n : Nat → Nat) (i : Int) (c : Nat) : ((twoc m n i c).extract 8 (8 + (row8 n).length)).toList = row8 n := by kernel_rfl
theorem two_get (m n : Nat → Nat) (i : Int) (c : Nat) (j : Nat) (h : j < 8) : (twoc m n i c)[j]? = some (.int .u32 (m j : Int)) := by
  obtain rfl | rfl | rfl | rfl | rfl | rfl | rfl | rfl : j = 0 ∨ j = 1 ∨ j = 2 ∨ j = 3 ∨ j = 4 ∨ j = 5 ∨ j = 6 ∨ j = 7 := by omega
  all_goals rfl

section
variable {H : Type} {enc : TypeId × Value → H} {W : World} {base : Nat} {spare : Nat → Bool} {held : Bool}

theorem two_cells {l : List Value} {fuel : Nat} {o : Option (DataW H × List MemPlace)} (ho : o.isSome = true) (h : DataW.trod enc Try.prog W base spare held fuel 28 l = o) : ∃ m n i c, l = twol m n i c := by
  obtain ⟨y, rfl⟩ := Option.isSome_iff_exists.1 ho
  have hC : Try.prog.cellsOf 28 = 18 := by kernel_rfl
  have h8 : Try.prog.cellsOf 26 = 8 := by kernel_rfl
  have h3 : Try.prog.cellsOf 3 = 1 := by kernel_rfl
  have h22 : Try.prog.cellsOf 22 = 1 := by kernel_rfl
  obtain ⟨xs, k, _, _, hlen, hl, hg⟩ := DataW.trod_struct Try.underlying28 h
  have hl4 : xs.length = 4 := hl
  have g0 := hg 0 _ rfl
  have g1 := hg 1 _ rfl
  have g2 := hg 2 _ rfl
  have g3 := hg 3 _ rfl
  obtain ⟨m, e0, _⟩ := row8_cells Try.underlying26 h8 (by rw [List.getElem?_eq_getElem (by omega)]; rfl) g0
  obtain ⟨n, e1, _⟩ := row8_cells Try.underlying26 h8 (by rw [List.getElem?_eq_getElem (by omega)]; rfl) g1
  rw [List.getElem?_eq_getElem (by omega)] at g2
  obtain ⟨i, e2, _, _⟩ := DataW.trod_int Try.underlying3 g2
  obtain ⟨c, e3, _⟩ := u32_cell (by rw [List.getElem?_eq_getElem (by omega)]; rfl) g3
  rw [hC] at hlen
  refine ⟨m, n, i, c, ?_⟩
  change (l.drop 0).take (Try.prog.cellsOf 26) = _ at e0
  change (l.drop 8).take (Try.prog.cellsOf 26) = _ at e1
  change (l.drop 16).take (Try.prog.cellsOf 3) = _ at e2
  change (l.drop 17).take (Try.prog.cellsOf 22) = _ at e3
  rw [h8] at e0 e1
  rw [h3] at e2
  rw [h22] at e3
  have z : l.drop 18 = [] := List.drop_eq_nil_of_le (by omega)
  have e : l = (l.drop 0).take 8 ++ ((l.drop 8).take 8 ++ ((l.drop 16).take 1 ++ (l.drop 17).take 1)) := by
    conv => lhs; rw [← List.drop_zero (l := l), more l 0 8, more l 8 8, more l 16 1, more l 17 1, z, List.append_nil]
  rw [e, e0, e1, e2, e3]
  rfl

theorem open_two {v : Value} {d : DataW H} {p : List MemPlace} (hv : ∃ cs, v = .agg cs) (h : DataW.Trod enc Try.prog W base spare held 28 v d p) : ∃ m n i c, v = .agg (twoc m n i c) := by
  obtain ⟨cs, rfl⟩ := hv
  obtain ⟨fuel, hf⟩ := h
  obtain ⟨m, n, i, c, e⟩ := two_cells rfl hf
  exact ⟨m, n, i, c, agg_of e⟩
end

end Go.Proofs.Ytbgfhmnlnjlnhaa
