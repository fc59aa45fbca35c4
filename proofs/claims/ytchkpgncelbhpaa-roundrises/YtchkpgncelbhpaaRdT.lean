/-
  Two places; counts and a place; members and a place: as arguments.
  No condition.
-/
import Derived.Test.YtchkpgncelbhpaaRd
namespace Go.Proofs.Ytchkpgncelbhpaa
set_option maxRecDepth 10000
open Go.ChangeShapes Go.WideShapes Go.ChangeAt Go.RowKit Go.WideElems Go.Sort

def ppc (a b : Pl) : Array Value := (a.vals ++ b.vals).toArray
def rpc (m : Nat → Nat) (p : Pl) : Array Value := (row8 m ++ p.vals).toArray
theorem ppc_a (a b : Pl) : ((ppc a b).extract 0 (0 + a.vals.length)).toList = a.vals := by kernel_rfl
theorem ppc_b (a b : Pl) : ((ppc a b).extract 3 (3 + b.vals.length)).toList = b.vals := by kernel_rfl
theorem rpc_m (m : Nat → Nat) (p : Pl) : ((rpc m p).extract 0 (0 + (row8 m).length)).toList = row8 m := by kernel_rfl
theorem rpc_p (m : Nat → Nat) (p : Pl) : ((rpc m p).extract 8 (8 + p.vals.length)).toList = p.vals := by kernel_rfl
theorem rpc_get (m : Nat → Nat) (p : Pl) (j : Nat) (h : j < 8) : (rpc m p)[j]? = some (.int .u32 (m j : Int)) := by
  obtain rfl | rfl | rfl | rfl | rfl | rfl | rfl | rfl : j = 0 ∨ j = 1 ∨ j = 2 ∨ j = 3 ∨ j = 4 ∨ j = 5 ∨ j = 6 ∨ j = 7 := by omega
  all_goals rfl

section
variable {H : Type} {enc : TypeId × Value → H} {W : World} {base : Nat} {spare : Nat → Bool} {held : Bool}

theorem open_pp {v : Value} {d : DataW H} {p : List MemPlace} (hv : ∃ cs, v = .agg cs) (h : DataW.Trod enc Try.prog W base spare held 29 v d p) : ∃ a b : Pl, v = .agg (ppc a b) ∧ a.r < 4294967296 ∧ b.r < 4294967296 := by
  obtain ⟨cs, rfl⟩ := hv
  obtain ⟨fuel, hf⟩ := h
  generalize hl : (Value.agg cs).cells.toList = l at hf
  have hC : Try.prog.cellsOf 29 = 6 := by kernel_rfl
  have h3 : Try.prog.cellsOf 27 = 3 := by kernel_rfl
  obtain ⟨xs, k, _, _, hlen, hx, hg⟩ := DataW.trod_struct Try.underlying29 hf
  have hl2 : xs.length = 2 := hx
  have g0 := hg 0 _ rfl
  have g1 := hg 1 _ rfl
  obtain ⟨a, e0, b0⟩ := pl_cells (by rw [List.getElem?_eq_getElem (by omega)]; rfl) g0
  obtain ⟨b, e1, b1⟩ := pl_cells (by rw [List.getElem?_eq_getElem (by omega)]; rfl) g1
  rw [hC] at hlen
  change (l.drop 0).take (Try.prog.cellsOf 27) = _ at e0
  change (l.drop 3).take (Try.prog.cellsOf 27) = _ at e1
  rw [h3] at e0 e1
  have z : l.drop 6 = [] := List.drop_eq_nil_of_le (by omega)
  have e : l = (l.drop 0).take 3 ++ (l.drop 3).take 3 := by
    conv => lhs; rw [← List.drop_zero (l := l), more l 0 3, more l 3 3, z, List.append_nil]
  rw [e0, e1] at e
  exact ⟨a, b, agg_of (hl.trans e), b0, b1⟩

theorem rp_cells {T U : TypeId} (hC : Try.prog.cellsOf T = 11) (hu : Try.prog.underlying U = some (.array 8 22)) (h8 : Try.prog.cellsOf U = 8) {l : List Value} {fuel fuel' : Nat} {o o' : Option (DataW H × List MemPlace)} (ho : o.isSome = true) (ho' : o'.isSome = true) (hlen : l.length = Try.prog.cellsOf T) (g0 : DataW.trod enc Try.prog W base spare held fuel U ((l.drop 0).take (Try.prog.cellsOf U)) = o) (g1 : DataW.trod enc Try.prog W base spare held fuel' 27 ((l.drop 8).take (Try.prog.cellsOf 27)) = o') :
    ∃ (c : Nat → Nat) (p : Pl), l = row8 c ++ p.vals ∧ (∀ i, c i < 4294967296) ∧ p.r < 4294967296 := by
  have h3 : Try.prog.cellsOf 27 = 3 := by kernel_rfl
  obtain ⟨c, e0, b0⟩ := row8_cells hu h8 ho g0
  obtain ⟨p, e1, b1⟩ := pl_cells ho' g1
  rw [hC] at hlen
  rw [h8] at e0
  rw [h3] at e1
  have z : l.drop 11 = [] := List.drop_eq_nil_of_le (by omega)
  have e : l = (l.drop 0).take 8 ++ (l.drop 8).take 3 := by
    conv => lhs; rw [← List.drop_zero (l := l), more l 0 8, more l 8 3, z, List.append_nil]
  rw [e0, e1] at e
  exact ⟨c, p, e, b0, b1⟩

theorem open_more {v : Value} {d : DataW H} {p : List MemPlace} (hv : ∃ cs, v = .agg cs) (h : DataW.Trod enc Try.prog W base spare held 41 v d p) : ∃ (c : Nat → Nat) (q : Pl), v = .agg (rpc c q) ∧ (∀ i, c i < 4294967296) ∧ q.r < 4294967296 := by
  obtain ⟨cs, rfl⟩ := hv
  obtain ⟨fuel, hf⟩ := h
  obtain ⟨xs, k, _, _, hlen, hx, hg⟩ := DataW.trod_struct Try.underlying41 hf
  have hl2 : xs.length = 2 := hx
  obtain ⟨c, q, e, b0, b1⟩ := rp_cells (T := 41) (by kernel_rfl) Try.underlying24 (by kernel_rfl) (by rw [List.getElem?_eq_getElem (by omega)]; rfl) (by rw [List.getElem?_eq_getElem (by omega)]; rfl) hlen (hg 0 _ rfl) (hg 1 _ rfl)
  exact ⟨c, q, agg_of e, b0, b1⟩

theorem open_where {v : Value} {d : DataW H} {p : List MemPlace} (hv : ∃ cs, v = .agg cs) (h : DataW.Trod enc Try.prog W base spare held 44 v d p) : ∃ (c : Nat → Nat) (q : Pl), v = .agg (rpc c q) ∧ q.r < 4294967296 := by
  obtain ⟨cs, rfl⟩ := hv
  obtain ⟨fuel, hf⟩ := h
  obtain ⟨xs, k, _, _, hlen, hx, hg⟩ := DataW.trod_struct Try.underlying44 hf
  have hl2 : xs.length = 2 := hx
  obtain ⟨c, q, e, _, b1⟩ := rp_cells (T := 44) (by kernel_rfl) Try.underlying25 (by kernel_rfl) (by rw [List.getElem?_eq_getElem (by omega)]; rfl) (by rw [List.getElem?_eq_getElem (by omega)]; rfl) hlen (hg 0 _ rfl) (hg 1 _ rfl)
  exact ⟨c, q, agg_of e, b1⟩

end

end Go.Proofs.Ytchkpgncelbhpaa
