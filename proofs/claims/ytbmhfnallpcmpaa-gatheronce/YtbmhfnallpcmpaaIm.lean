/-
  Ids (three numbers) and lists of them as plain data: their cells; two of them compared; as arguments.
  No condition.
-/
import Derived.Test.YtbmhfnallpcmpaaMb
namespace Go.Proofs.Ytbmhfnallpcmpaa
set_option maxRecDepth 10000
open Go.ChangeShapes Go.WideShapes Go.ChangeAt Go.RowKit Go.WideElems Go.Sort

structure Idn where
  e : Nat
  c : Nat
  i : Nat

def Idn.vals (x : Idn) : List Value := [.int .u32 (x.e : Int), .int .u32 (x.c : Int), .int .u32 (x.i : Int)]
def Idn.arr (x : Idn) : Array Value := x.vals.toArray
def Idn.zero : Idn := ⟨0, 0, 0⟩
theorem Idn.vals_length (x : Idn) : x.vals.length = 3 := rfl
theorem Idn.vals_one (x : Idn) : ∀ v ∈ x.vals, v.oneCell' = true := by
  intro v hv
  simp [Idn.vals] at hv
  rcases hv with rfl | rfl | rfl <;> rfl
theorem Idn.arr_one (x : Idn) : x.arr.all (·.oneCell') = true := all_oneCell_toArray x.vals_one
theorem sizeIdn : (Try.prog.info? 27).map (·.size) = some 3 := by kernel_rfl
theorem Idn.size (x : Idn) : (Try.prog.info? 27).map (·.size) = some x.arr.size := sizeIdn
theorem zeroIdn : (Try.prog.info? 27).map (fun i => (i.zero, i.size)) = some (some (.agg Idn.zero.arr), 3) := by kernel_rfl
theorem builtIdn : Try.prog.built 27 [] = some Idn.zero.arr := by kernel_rfl

def Idn.same (a b : Idn) : Bool := decide (a.e = b.e ∧ a.c = b.c ∧ a.i = b.i)
theorem Idn.same_iff (a b : Idn) : Idn.same a b = true ↔ a = b := by
  unfold Idn.same
  rw [decide_eq_true_eq]
  constructor
  · rintro ⟨h0, h1, h2⟩
    cases a; cases b
    simp_all
  · rintro rfl
    exact ⟨rfl, rfl, rfl⟩
theorem Idn.same_self (a : Idn) : Idn.same a a = true := (Idn.same_iff a a).2 rfl
theorem equalIdn (a b : Idn) (w : World) : (Op.equal 27 (.agg a.arr) (.agg b.arr)).run Try.prog w = .ok (Idn.same a b) w := by
  obtain ⟨e, c, i⟩ := a
  obtain ⟨e', c', i'⟩ := b
  by_cases h1 : e = e'
  · by_cases h2 : c = c'
    · by_cases h3 : i = i'
      · simp [go_sem, Op.equal, Op.maxDepth, Idn.arr, Idn.vals, Idn.same, *]
      · simp [go_sem, Op.equal, Op.maxDepth, Idn.arr, Idn.vals, Idn.same, Int.ofNat_inj, *]
    · simp [go_sem, Op.equal, Op.maxDepth, Idn.arr, Idn.vals, Idn.same, Int.ofNat_inj, *]
  · simp [go_sem, Op.equal, Op.maxDepth, Idn.arr, Idn.vals, Idn.same, Int.ofNat_inj, *]
theorem eqlIdn (a b : Idn) (c : Bool) (h : Idn.same a b = c) (w : World) : (binOp .eql 27 (.agg a.arr) (.agg b.arr)).run Try.prog w = .ok (.bool c) w := by
  simp only [binOp]
  simp [equalIdn, h]
theorem neqIdn (a b : Idn) (c : Bool) (h : Idn.same a b = c) (w : World) : (binOp .neq 27 (.agg a.arr) (.agg b.arr)).run Try.prog w = .ok (.bool (!c)) w := by
  simp only [binOp]
  simp [equalIdn, h]

section
variable {H : Type} {enc : TypeId × Value → H} {W : World} {base : Nat} {spare : Nat → Bool} {held : Bool}

theorem id_cells {l : List Value} {fuel : Nat} {o : Option (DataW H × List MemPlace)} (ho : o.isSome = true) (h : DataW.trod enc Try.prog W base spare held fuel 27 l = o) : ∃ x : Idn, l = x.vals ∧ x.e < 4294967296 ∧ x.c < 4294967296 ∧ x.i < 4294967296 := by
  obtain ⟨y, rfl⟩ := Option.isSome_iff_exists.1 ho
  have hC : Try.prog.cellsOf 27 = 3 := by kernel_rfl
  have h22 : Try.prog.cellsOf 22 = 1 := by kernel_rfl
  obtain ⟨xs, m, _, _, hlen, hl, hg⟩ := DataW.trod_struct Try.underlying27 h
  have hl3 : xs.length = 3 := hl
  have g0 := hg 0 _ rfl
  have g1 := hg 1 _ rfl
  have g2 := hg 2 _ rfl
  obtain ⟨x0, e0, b0⟩ := u32_cell (by rw [List.getElem?_eq_getElem (by omega)]; rfl) g0
  obtain ⟨x1, e1, b1⟩ := u32_cell (by rw [List.getElem?_eq_getElem (by omega)]; rfl) g1
  obtain ⟨x2, e2, b2⟩ := u32_cell (by rw [List.getElem?_eq_getElem (by omega)]; rfl) g2
  rw [hC] at hlen
  refine ⟨⟨x0, x1, x2⟩, ?_, b0, b1, b2⟩
  change (l.drop 0).take (Try.prog.cellsOf 22) = _ at e0
  change (l.drop 1).take (Try.prog.cellsOf 22) = _ at e1
  change (l.drop 2).take (Try.prog.cellsOf 22) = _ at e2
  rw [h22] at e0 e1 e2
  have z : l.drop 3 = [] := List.drop_eq_nil_of_le (by omega)
  have e : l = (l.drop 0).take 1 ++ ((l.drop 1).take 1 ++ ((l.drop 2).take 1)) := by
    conv => lhs; rw [← List.drop_zero (l := l), one_more l 0, one_more l 1, one_more l 2, z, List.append_nil]
  rw [e, e0, e1, e2]
  rfl

theorem open_id {v : Value} {d : DataW H} {p : List MemPlace} (hv : ∃ cs, v = .agg cs) (h : DataW.Trod enc Try.prog W base spare held 27 v d p) : ∃ x : Idn, v = .agg x.arr := by
  obtain ⟨cs, rfl⟩ := hv
  obtain ⟨fuel, hf⟩ := h
  obtain ⟨x, e, _⟩ := id_cells rfl hf
  exact ⟨x, agg_of e⟩

end

end Go.Proofs.Ytbmhfnallpcmpaa
