/-
  An entry, a daemon with an entry, a daemon with a group and members, as arguments.
  No condition.
-/
import Derived.Test.YthkomehnhadmlaaGr
import Derived.Test.YthkomehnhadmlaaEn
import Derived.Test.YthkomehnhadmlaaMb
namespace Go.Proofs.Ythkomehnhadmlaa
set_option maxRecDepth 10000
open Go.ChangeShapes Go.WideShapes Go.ChangeAt Go.RowKit Go.WideElems Go.Sort
set_option linter.unusedVariables false
set_option linter.unusedSimpArgs false

def whc (d g : Int) (m : Nat → Nat) : Array Value := (([.int .i64 d, .int .i64 g] : List Value) ++ row8 m).toArray
def dic (d : Int) (e : En) : Array Value := (([.int .i64 d] : List Value) ++ e.vals).toArray
theorem whc_m (d g : Int) (m : Nat → Nat) : ((whc d g m).extract 2 (2 + (row8 m).length)).toList = row8 m := by kernel_rfl
theorem dic_e (d : Int) (e : En) : ((dic d e).extract 1 (1 + e.vals.length)).toList = e.vals := by kernel_rfl
theorem sizeWh : (Try.prog.info? 30).map (·.size) = some 10 := by kernel_rfl
theorem sizeDi : (Try.prog.info? 45).map (·.size) = some 7 := by kernel_rfl

section
variable {H : Type} {enc : TypeId × Value → H} {W : World} {base : Nat} {spare : Nat → Bool} {held : Bool}
theorem open_en {v : Value} {d : DataW H} {p : List MemPlace} (hv : ∃ cs, v = .agg cs) (h : DataW.Trod enc Try.prog W base spare held 25 v d p) : ∃ e : En, v = .agg e.arr := by
  obtain ⟨cs, rfl⟩ := hv
  obtain ⟨fuel, hf⟩ := h
  obtain ⟨e, he⟩ := cellsEn hf
  exact ⟨e, agg_of he⟩
theorem en_cells {l : List Value} {fuel : Nat} {o : Option (DataW H × List MemPlace)} (ho : o.isSome = true) (h : DataW.trod enc Try.prog W base spare held fuel 25 l = o) : ∃ e : En, l = e.vals := by
  obtain ⟨y, rfl⟩ := Option.isSome_iff_exists.1 ho
  exact cellsEn h
theorem int_cell {l : List Value} {fuel : Nat} {o : Option (DataW H × List MemPlace)} (ho : o.isSome = true) (h : DataW.trod enc Try.prog W base spare held fuel 3 l = o) : ∃ x : Int, l = [.int .i64 x] := by
  obtain ⟨y, rfl⟩ := Option.isSome_iff_exists.1 ho
  obtain ⟨k, e, _, hw⟩ := DataW.trod_int Try.underlying3 h
  exact ⟨k, e⟩
theorem open_di {v : Value} {d : DataW H} {p : List MemPlace} (hv : ∃ cs, v = .agg cs) (h : DataW.Trod enc Try.prog W base spare held 45 v d p) : ∃ (x : Int) (e : En), v = .agg (dic x e) := by
  obtain ⟨cs, rfl⟩ := hv
  obtain ⟨fuel, hf⟩ := h
  generalize hl : (Value.agg cs).cells.toList = l at hf
  have hC : Try.prog.cellsOf 45 = 7 := by kernel_rfl
  have h1 : Try.prog.cellsOf 3 = 1 := by kernel_rfl
  have h6 : Try.prog.cellsOf 25 = 6 := by kernel_rfl
  obtain ⟨xs, k, _, _, hlen, hx, hg⟩ := DataW.trod_struct Try.underlying45 hf
  have hl2 : xs.length = 2 := hx
  obtain ⟨x, e0⟩ := int_cell (by rw [List.getElem?_eq_getElem (by omega)]; rfl) (hg 0 _ rfl)
  obtain ⟨e, e1⟩ := en_cells (by rw [List.getElem?_eq_getElem (by omega)]; rfl) (hg 1 _ rfl)
  rw [hC] at hlen
  change (l.drop 0).take (Try.prog.cellsOf 3) = _ at e0
  change (l.drop 1).take (Try.prog.cellsOf 25) = _ at e1
  rw [h1] at e0
  rw [h6] at e1
  have z : l.drop 7 = [] := List.drop_eq_nil_of_le (by omega)
  have e9 : l = (l.drop 0).take 1 ++ (l.drop 1).take 6 := by
    conv => lhs; rw [← List.drop_zero (l := l), more l 0 1, more l 1 6, z, List.append_nil]
  rw [e0, e1] at e9
  exact ⟨x, e, agg_of (hl.trans e9)⟩
theorem open_wh {v : Value} {d : DataW H} {p : List MemPlace} (hv : ∃ cs, v = .agg cs) (h : DataW.Trod enc Try.prog W base spare held 30 v d p) : ∃ (x g : Int) (m : Nat → Nat), v = .agg (whc x g m) := by
  obtain ⟨cs, rfl⟩ := hv
  obtain ⟨fuel, hf⟩ := h
  generalize hl : (Value.agg cs).cells.toList = l at hf
  have hC : Try.prog.cellsOf 30 = 10 := by kernel_rfl
  have h1 : Try.prog.cellsOf 3 = 1 := by kernel_rfl
  have h8 : Try.prog.cellsOf 28 = 8 := by kernel_rfl
  obtain ⟨xs, k, _, _, hlen, hx, hg⟩ := DataW.trod_struct Try.underlying30 hf
  have hl2 : xs.length = 3 := hx
  obtain ⟨x, e0⟩ := int_cell (by rw [List.getElem?_eq_getElem (by omega)]; rfl) (hg 0 _ rfl)
  obtain ⟨g, e1⟩ := int_cell (by rw [List.getElem?_eq_getElem (by omega)]; rfl) (hg 1 _ rfl)
  obtain ⟨m, e2, _⟩ := row8_cells Try.underlying28 h8 (by rw [List.getElem?_eq_getElem (by omega)]; rfl) (hg 2 _ rfl)
  rw [hC] at hlen
  change (l.drop 0).take (Try.prog.cellsOf 3) = _ at e0
  change (l.drop 1).take (Try.prog.cellsOf 3) = _ at e1
  change (l.drop 2).take (Try.prog.cellsOf 28) = _ at e2
  rw [h1] at e0 e1
  rw [h8] at e2
  have z : l.drop 10 = [] := List.drop_eq_nil_of_le (by omega)
  have e9 : l = (l.drop 0).take 1 ++ ((l.drop 1).take 1 ++ (l.drop 2).take 8) := by
    conv => lhs; rw [← List.drop_zero (l := l), more l 0 1, more l 1 1, more l 2 8, z, List.append_nil]
  rw [e0, e1, e2] at e9
  exact ⟨x, g, m, agg_of (hl.trans e9)⟩
end

end Go.Proofs.Ythkomehnhadmlaa
