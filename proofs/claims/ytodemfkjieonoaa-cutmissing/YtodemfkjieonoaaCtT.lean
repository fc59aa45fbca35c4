/-
  Counts, others, members and a place as an argument; a list of counts as an argument.
  No condition.
-/
import Derived.Test.YtodemfkjieonoaaCtA
namespace Go.Proofs.Ytodemfkjieonoaa
set_option maxRecDepth 10000
open Go.ChangeShapes Go.WideShapes Go.ChangeAt Go.RowKit Go.WideElems Go.Sort

def cwl (a b m : Nat → Nat) (g : Pl) : List Value := row8 a ++ (row8 b ++ (row8 m ++ g.vals))
def cwc (a b m : Nat → Nat) (g : Pl) : Array Value := (cwl a b m g).toArray
theorem cw_a (a b m : Nat → Nat) (g : Pl) : ((cwc a b m g).extract 0 (0 + (row8 a).length)).toList = row8 a := by kernel_rfl
theorem cw_b (a b m : Nat → Nat) (g : Pl) : ((cwc a b m g).extract 8 (8 + (row8 b).length)).toList = row8 b := by kernel_rfl
theorem cw_m (a b m : Nat → Nat) (g : Pl) : ((cwc a b m g).extract 16 (16 + (row8 m).length)).toList = row8 m := by kernel_rfl
theorem cw_g (a b m : Nat → Nat) (g : Pl) : ((cwc a b m g).extract 24 (24 + g.vals.length)).toList = g.vals := by kernel_rfl
theorem cw_geta (a b m : Nat → Nat) (g : Pl) (j : Nat) (h : j < 8) : (cwc a b m g)[j]? = some (.int .u32 (a j : Int)) := by
  obtain rfl | rfl | rfl | rfl | rfl | rfl | rfl | rfl : j = 0 ∨ j = 1 ∨ j = 2 ∨ j = 3 ∨ j = 4 ∨ j = 5 ∨ j = 6 ∨ j = 7 := by omega
  all_goals rfl
theorem cw_getb (a b m : Nat → Nat) (g : Pl) (j : Nat) (h : j < 8) : (cwc a b m g)[8 + j]? = some (.int .u32 (b j : Int)) := by
  obtain rfl | rfl | rfl | rfl | rfl | rfl | rfl | rfl : j = 0 ∨ j = 1 ∨ j = 2 ∨ j = 3 ∨ j = 4 ∨ j = 5 ∨ j = 6 ∨ j = 7 := by omega
  all_goals rfl
theorem cw_getm (a b m : Nat → Nat) (g : Pl) (j : Nat) (h : j < 8) : (cwc a b m g)[16 + j]? = some (.int .u32 (m j : Int)) := by
  obtain rfl | rfl | rfl | rfl | rfl | rfl | rfl | rfl : j = 0 ∨ j = 1 ∨ j = 2 ∨ j = 3 ∨ j = 4 ∨ j = 5 ∨ j = 6 ∨ j = 7 := by omega
  all_goals rfl

section
variable {H : Type} {enc : TypeId × Value → H} {W : World} {base : Nat} {spare : Nat → Bool} {held : Bool}

theorem cw_cells {l : List Value} {fuel : Nat} {o : Option (DataW H × List MemPlace)} (ho : o.isSome = true) (h : DataW.trod enc Try.prog W base spare held fuel 30 l = o) : ∃ a b m g, l = cwl a b m g ∧ (∀ i, a i < 4294967296) ∧ (∀ i, b i < 4294967296) ∧ g.r < 4294967296 := by
  obtain ⟨y, rfl⟩ := Option.isSome_iff_exists.1 ho
  have hC : Try.prog.cellsOf 30 = 27 := by kernel_rfl
  have h8 : Try.prog.cellsOf 26 = 8 := by kernel_rfl
  have h8c : Try.prog.cellsOf 25 = 8 := by kernel_rfl
  have h3 : Try.prog.cellsOf 28 = 3 := by kernel_rfl
  obtain ⟨xs, k, _, _, hlen, hl, hg⟩ := DataW.trod_struct Try.underlying30 h
  have hl4 : xs.length = 4 := hl
  have g0 := hg 0 _ rfl
  have g1 := hg 1 _ rfl
  have g2 := hg 2 _ rfl
  have g3 := hg 3 _ rfl
  obtain ⟨a, e0, b0⟩ := row8_cells Try.underlying25 h8c (by rw [List.getElem?_eq_getElem (by omega)]; rfl) g0
  obtain ⟨b, e1, b1⟩ := row8_cells Try.underlying25 h8c (by rw [List.getElem?_eq_getElem (by omega)]; rfl) g1
  obtain ⟨m, e2, _⟩ := row8_cells Try.underlying26 h8 (by rw [List.getElem?_eq_getElem (by omega)]; rfl) g2
  obtain ⟨g, e3, b3⟩ := pl_cells (by rw [List.getElem?_eq_getElem (by omega)]; rfl) g3
  rw [hC] at hlen
  refine ⟨a, b, m, g, ?_, b0, b1, b3⟩
  change (l.drop 0).take (Try.prog.cellsOf 25) = _ at e0
  change (l.drop 8).take (Try.prog.cellsOf 25) = _ at e1
  change (l.drop 16).take (Try.prog.cellsOf 26) = _ at e2
  change (l.drop 24).take (Try.prog.cellsOf 28) = _ at e3
  rw [h8c] at e0 e1
  rw [h8] at e2
  rw [h3] at e3
  have z : l.drop 27 = [] := List.drop_eq_nil_of_le (by omega)
  have e : l = (l.drop 0).take 8 ++ ((l.drop 8).take 8 ++ ((l.drop 16).take 8 ++ (l.drop 24).take 3)) := by
    conv => lhs; rw [← List.drop_zero (l := l), more l 0 8, more l 8 8, more l 16 8, more l 24 3, z, List.append_nil]
  rw [e, e0, e1, e2, e3]
  rfl

theorem open_cw {v : Value} {d : DataW H} {p : List MemPlace} (hv : ∃ cs, v = .agg cs) (h : DataW.Trod enc Try.prog W base spare held 30 v d p) : ∃ a b m g, v = .agg (cwc a b m g) ∧ (∀ i, a i < 4294967296) ∧ (∀ i, b i < 4294967296) ∧ g.r < 4294967296 := by
  obtain ⟨cs, rfl⟩ := hv
  obtain ⟨fuel, hf⟩ := h
  obtain ⟨a, b, m, g, e, h1, h2, h3⟩ := cw_cells rfl hf
  exact ⟨a, b, m, g, agg_of e, h1, h2, h3⟩

theorem cellsCt {cs : List Value} {fuel : Nat} {x : DataW H × List MemPlace} (h : DataW.trod enc Try.prog W base spare held fuel 25 cs = some x) : ∃ c : Nat → Nat, cs = row8 c := by
  obtain ⟨c, e, _⟩ := row8_cells Try.underlying25 (by kernel_rfl) rfl h
  exact ⟨c, e⟩
theorem open_cts {v : Value} {d : DataW H} {p : List MemPlace} (hv : ∃ a n c, v = .slice a n c) (h : DataW.Trod enc Try.prog W base spare held 22 v d p) :
    ∃ (a : Option Addr) (L : List (Nat → Nat)) (c : Nat), v = .slice a L.length c ∧ L.length ≤ maxLen ∧ Li row8 0 a L W :=
  open_li noMb row8_length (by decide) Try.underlying22 (by kernel_rfl) cellsCt hv h

end

end Go.Proofs.Ytodemfkjieonoaa
