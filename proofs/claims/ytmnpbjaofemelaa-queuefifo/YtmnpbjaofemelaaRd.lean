/-
  Counts (eight numbers) and places (a round, a daemon, a slot) as plain data: their cells; two of them compared; as arguments.
  No condition.
-/
import Derived.Test.YtmnpbjaofemelaaMb
namespace Go.Proofs.Ytmnpbjaofemelaa
set_option maxRecDepth 10000
open Go.ChangeShapes Go.WideShapes Go.ChangeAt Go.RowKit Go.WideElems Go.Sort

theorem sizeCt : (Try.prog.info? 28).map (·.size) = some 8 := by kernel_rfl
theorem zeroCt : (Try.prog.info? 28).map (fun i => (i.zero, i.size)) = some (some (.agg (mbc noMb)), 8) := by kernel_rfl
theorem builtCt : Try.prog.built 28 [] = some (mbc noMb) := by kernel_rfl
theorem equalCt (x y : Nat → Nat) (w : World) : (Op.equalIn 10000 28 (.agg (mbc x)) (.agg (mbc y))).run Try.prog w = .ok (mbSame x y) w := equalRow Try.underlying28 9998 x y w
theorem eqlCt (x y : Nat → Nat) (c : Bool) (h : mbSame x y = c) (w : World) : (binOp .eql 28 (.agg (mbc x)) (.agg (mbc y))).run Try.prog w = .ok (.bool c) w := by
  rw [run_eql_struct, equalCt, h]; rfl
theorem neqCt (x y : Nat → Nat) (c : Bool) (h : mbSame x y = c) (w : World) : (binOp .neq 28 (.agg (mbc x)) (.agg (mbc y))).run Try.prog w = .ok (.bool (!c)) w := by
  rw [run_neq_struct, equalCt, h]; rfl

/- A place. -/
structure Pl where
  r : Nat
  f : Int
  s : Int

def Pl.vals (x : Pl) : List Value := [.int .u32 (x.r : Int), .int .i64 x.f, .int .i64 x.s]
def Pl.arr (x : Pl) : Array Value := x.vals.toArray
def Pl.zero : Pl := ⟨0, 0, 0⟩
theorem Pl.vals_length (x : Pl) : x.vals.length = 3 := rfl
theorem Pl.vals_one (x : Pl) : ∀ v ∈ x.vals, v.oneCell' = true := by
  intro v hv
  simp [Pl.vals] at hv
  rcases hv with rfl | rfl | rfl <;> rfl
theorem Pl.arr_one (x : Pl) : x.arr.all (·.oneCell') = true := all_oneCell_toArray x.vals_one
theorem Pl.arr_size (x : Pl) : x.arr.size = 3 := rfl
theorem sizePl : (Try.prog.info? 42).map (·.size) = some 3 := by kernel_rfl
theorem Pl.size (x : Pl) : (Try.prog.info? 42).map (·.size) = some x.arr.size := sizePl
theorem zeroPl : (Try.prog.info? 42).map (fun i => (i.zero, i.size)) = some (some (.agg Pl.zero.arr), 3) := by kernel_rfl
theorem builtPl : Try.prog.built 42 [] = some Pl.zero.arr := by kernel_rfl
theorem builtPl2 (r : Nat) (f : Int) : Try.prog.built 42 [(0, .int .u32 (r : Int)), (1, .int .i64 f)] = some (Pl.mk r f 0).arr := by kernel_rfl

def Pl.same (a b : Pl) : Bool := decide (a.r = b.r ∧ a.f = b.f ∧ a.s = b.s)
theorem Pl.same_iff (a b : Pl) : Pl.same a b = true ↔ a = b := by
  unfold Pl.same
  rw [decide_eq_true_eq]
  constructor
  · rintro ⟨h0, h1, h2⟩
    cases a; cases b
    simp_all
  · rintro rfl
    exact ⟨rfl, rfl, rfl⟩
theorem Pl.same_self (a : Pl) : Pl.same a a = true := (Pl.same_iff a a).2 rfl
theorem equalPl (a b : Pl) (w : World) : (Op.equal 42 (.agg a.arr) (.agg b.arr)).run Try.prog w = .ok (Pl.same a b) w := by
  obtain ⟨e, c, i⟩ := a
  obtain ⟨e', c', i'⟩ := b
  by_cases h1 : e = e'
  · by_cases h2 : c = c'
    · by_cases h3 : i = i'
      · simp [go_sem, Op.equal, Op.maxDepth, Pl.arr, Pl.vals, Pl.same, *]
      · simp [go_sem, Op.equal, Op.maxDepth, Pl.arr, Pl.vals, Pl.same, *]
    · simp [go_sem, Op.equal, Op.maxDepth, Pl.arr, Pl.vals, Pl.same, *]
  · simp [go_sem, Op.equal, Op.maxDepth, Pl.arr, Pl.vals, Pl.same, Int.ofNat_inj, *]
theorem eqlPl (a b : Pl) (c : Bool) (h : Pl.same a b = c) (w : World) : (binOp .eql 42 (.agg a.arr) (.agg b.arr)).run Try.prog w = .ok (.bool c) w := by
  simp only [binOp]
  simp [equalPl, h]
theorem neqPl (a b : Pl) (c : Bool) (h : Pl.same a b = c) (w : World) : (binOp .neq 42 (.agg a.arr) (.agg b.arr)).run Try.prog w = .ok (.bool (!c)) w := by
  simp only [binOp]
  simp [equalPl, h]

section
variable {H : Type} {enc : TypeId × Value → H} {W : World} {base : Nat} {spare : Nat → Bool} {held : Bool}

theorem open_ct {v : Value} {d : DataW H} {p : List MemPlace} (hv : ∃ cs, v = .agg cs) (h : DataW.Trod enc Try.prog W base spare held 28 v d p) : ∃ c : Nat → Nat, v = .agg (mbc c) ∧ ∀ i, c i < 4294967296 := by
  obtain ⟨cs, rfl⟩ := hv
  obtain ⟨fuel, hf⟩ := h
  obtain ⟨x, e, b⟩ := row8_cells Try.underlying28 (by kernel_rfl) rfl hf
  exact ⟨x, agg_of e, b⟩

theorem i64_cell {l : List Value} {fuel : Nat} {o : Option (DataW H × List MemPlace)} (ho : o.isSome = true) (h : DataW.trod enc Try.prog W base spare held fuel 3 l = o) : ∃ x : Int, l = [.int .i64 x] := by
  obtain ⟨y, rfl⟩ := Option.isSome_iff_exists.1 ho
  obtain ⟨k, e, _, hw⟩ := DataW.trod_int Try.underlying3 h
  exact ⟨k, e⟩

theorem pl_cells {l : List Value} {fuel : Nat} {o : Option (DataW H × List MemPlace)} (ho : o.isSome = true) (h : DataW.trod enc Try.prog W base spare held fuel 42 l = o) : ∃ x : Pl, l = x.vals ∧ x.r < 4294967296 := by
  obtain ⟨y, rfl⟩ := Option.isSome_iff_exists.1 ho
  have hC : Try.prog.cellsOf 42 = 3 := by kernel_rfl
  have h22 : Try.prog.cellsOf 23 = 1 := by kernel_rfl
  have h3 : Try.prog.cellsOf 3 = 1 := by kernel_rfl
  obtain ⟨xs, m, _, _, hlen, hl, hg⟩ := DataW.trod_struct Try.underlying42 h
  have hl3 : xs.length = 3 := hl
  have g0 := hg 0 _ rfl
  have g1 := hg 1 _ rfl
  have g2 := hg 2 _ rfl
  obtain ⟨x0, e0, b0⟩ := u32_cell (by rw [List.getElem?_eq_getElem (by omega)]; rfl) g0
  obtain ⟨x1, e1⟩ := i64_cell (by rw [List.getElem?_eq_getElem (by omega)]; rfl) g1
  obtain ⟨x2, e2⟩ := i64_cell (by rw [List.getElem?_eq_getElem (by omega)]; rfl) g2
  rw [hC] at hlen
  refine ⟨⟨x0, x1, x2⟩, ?_, b0⟩
  change (l.drop 0).take (Try.prog.cellsOf 23) = _ at e0
  change (l.drop 1).take (Try.prog.cellsOf 3) = _ at e1
  change (l.drop 2).take (Try.prog.cellsOf 3) = _ at e2
  rw [h22] at e0
  rw [h3] at e1 e2
  have z : l.drop 3 = [] := List.drop_eq_nil_of_le (by omega)
  have e : l = (l.drop 0).take 1 ++ ((l.drop 1).take 1 ++ ((l.drop 2).take 1)) := by
    conv => lhs; rw [← List.drop_zero (l := l), one_more l 0, one_more l 1, one_more l 2, z, List.append_nil]
  rw [e, e0, e1, e2]
  rfl

theorem open_pl {v : Value} {d : DataW H} {p : List MemPlace} (hv : ∃ cs, v = .agg cs) (h : DataW.Trod enc Try.prog W base spare held 42 v d p) : ∃ x : Pl, v = .agg x.arr ∧ x.r < 4294967296 := by
  obtain ⟨cs, rfl⟩ := hv
  obtain ⟨fuel, hf⟩ := h
  obtain ⟨x, e, b⟩ := pl_cells rfl hf
  exact ⟨x, agg_of e, b⟩

end

end Go.Proofs.Ytmnpbjaofemelaa
