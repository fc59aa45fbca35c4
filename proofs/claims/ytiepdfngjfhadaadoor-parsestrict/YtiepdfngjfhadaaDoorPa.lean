/-
  Calls as plain data: their cells; two compared; one as an argument.
  No condition.
-/
import Derived.Test.YtiepdfngjfhadaaDoorLw
namespace Go.Proofs.YtiepdfngjfhadaaDoor
set_option maxRecDepth 10000
open Go.ChangeShapes Go.WideShapes Go.ChangeAt Go.RowKit Go.WideElems Go.Sort
set_option linter.unusedVariables false
set_option linter.unusedSimpArgs false

structure Ca where
  d : Int
  h : Nat
  o : Nat
  g : Int
  gr : Int
  sv : Int
  t : ByteArray

def Ca.vals (e : Ca) : List Value := [.int .i64 e.d, .int .u64 (e.h : Int), .int .u64 (e.o : Int), .int .i64 e.g, .int .i64 e.gr, .int .i64 e.sv, .string e.t]
def Ca.zero : Ca := ⟨0, 0, 0, 0, 0, 0, ⟨#[]⟩⟩
def Ca.arr (e : Ca) : Array Value := e.vals.toArray
theorem Ca.vals_length (e : Ca) : e.vals.length = 7 := rfl
theorem Ca.arr_size (e : Ca) : e.arr.size = 7 := rfl
theorem Ca.vals_one (e : Ca) : ∀ v ∈ e.vals, v.oneCell' = true := by
  intro v hv
  simp [Ca.vals] at hv
  rcases hv with rfl | rfl | rfl | rfl | rfl | rfl | rfl <;> rfl
theorem Ca.arr_one (e : Ca) : e.arr.all (·.oneCell') = true := all_oneCell_toArray e.vals_one
def Ca.fit (e : Ca) : Prop := (-9223372036854775808 ≤ e.d ∧ e.d ≤ 9223372036854775807) ∧ e.h < 18446744073709551616 ∧ e.o < 18446744073709551616 ∧ (-9223372036854775808 ≤ e.g ∧ e.g ≤ 9223372036854775807) ∧ (-9223372036854775808 ≤ e.gr ∧ e.gr ≤ 9223372036854775807) ∧ (-9223372036854775808 ≤ e.sv ∧ e.sv ≤ 9223372036854775807) ∧ e.t.size ≤ 140737488351232

theorem sizeCa : (Tryd.prog.info? 24).map (·.size) = some 7 := by kernel_rfl
theorem zeroCa : (Tryd.prog.info? 24).map (fun i => (i.zero, i.size)) = some (some (.agg Ca.zero.arr), 7) := by kernel_rfl
theorem builtCa : Tryd.prog.built 24 [] = some Ca.zero.arr := by kernel_rfl
theorem infoCa : ∃ i z, Tryd.prog.info? 24 = some i ∧ i.zero = some z ∧ i.size = 7 ∧ i.bytes = 64 ∧ z.cells.size = 7 := by
  have h : (Tryd.prog.info? 24).map (fun i => (i.zero, i.size, i.bytes)) = some (some (.agg Ca.zero.arr), 7, 64) := by kernel_rfl
  obtain ⟨i, hi, h0, h1, h2⟩ := info_parts h
  exact ⟨i, _, hi, h0, h1, h2, rfl⟩

def Ca.same (a b : Ca) : Bool := decide (a.d = b.d ∧ a.h = b.h ∧ a.o = b.o ∧ a.g = b.g ∧ a.gr = b.gr ∧ a.sv = b.sv ∧ a.t = b.t)
theorem Ca.same_iff (a b : Ca) : Ca.same a b = true ↔ a = b := by
  unfold Ca.same
  rw [decide_eq_true_eq]
  constructor
  · rintro ⟨h0, h1, h2, h3, h4, h5, h6⟩
    cases a; cases b
    simp_all
  · rintro rfl
    exact ⟨rfl, rfl, rfl, rfl, rfl, rfl, rfl⟩
theorem Ca.same_self (a : Ca) : Ca.same a a = true := (Ca.same_iff a a).2 rfl
theorem Ca.same_no {a b : Ca} (h : a ≠ b) : Ca.same a b = false := by
  cases e : Ca.same a b
  · rfl
  · exact absurd ((Ca.same_iff a b).1 e) h

theorem equalCa (a b : Ca) (w : World) : (Op.equal 24 (.agg a.arr) (.agg b.arr)).run Tryd.prog w = .ok (Ca.same a b) w := by
  obtain ⟨d, h, o, g, gr, sv, t⟩ := a
  obtain ⟨d_, h_, o_, g_, gr_, sv_, t_⟩ := b
  by_cases h0 : d = d_
  · by_cases h1 : h = h_
    · by_cases h2 : o = o_
      · by_cases h3 : g = g_
        · by_cases h4 : gr = gr_
          · by_cases h5 : sv = sv_
            · by_cases h6 : t = t_
              · simp [go_sem, Op.equal, Op.maxDepth, Ca.arr, Ca.vals, Ca.same, *]
              · have h9 := leNe h6
                simp [go_sem, Op.equal, Op.maxDepth, Ca.arr, Ca.vals, Ca.same, *]
            · simp [go_sem, Op.equal, Op.maxDepth, Ca.arr, Ca.vals, Ca.same, *]
          · simp [go_sem, Op.equal, Op.maxDepth, Ca.arr, Ca.vals, Ca.same, *]
        · simp [go_sem, Op.equal, Op.maxDepth, Ca.arr, Ca.vals, Ca.same, *]
      · have h9 : ¬ (o : Int) = (o_ : Int) := by omega
        simp [go_sem, Op.equal, Op.maxDepth, Ca.arr, Ca.vals, Ca.same, *]
    · have h9 : ¬ (h : Int) = (h_ : Int) := by omega
      simp [go_sem, Op.equal, Op.maxDepth, Ca.arr, Ca.vals, Ca.same, *]
  · simp [go_sem, Op.equal, Op.maxDepth, Ca.arr, Ca.vals, Ca.same, *]
theorem eqlCa (a b : Ca) (c : Bool) (h : Ca.same a b = c) (w : World) : (binOp .eql 24 (.agg a.arr) (.agg b.arr)).run Tryd.prog w = .ok (.bool c) w := by
  simp only [binOp]
  simp [equalCa, h]
theorem neqCa (a b : Ca) (c : Bool) (h : Ca.same a b = c) (w : World) : (binOp .neq 24 (.agg a.arr) (.agg b.arr)).run Tryd.prog w = .ok (.bool (!c)) w := by
  simp only [binOp]
  simp [equalCa, h]

section
variable {H : Type} {enc : TypeId × Value → H} {W : World} {base : Nat} {spare : Nat → Bool} {held : Bool}
theorem cellsCa {cs : List Value} {fuel : Nat} {x : DataW H × List MemPlace} (h : DataW.trod enc Tryd.prog W base spare held fuel 24 cs = some x) (hw : ∀ n ∈ x.1.weights Tryd.prog 24, n ≤ reachBytes) : ∃ e : Ca, cs = e.vals ∧ e.fit := by
  have hC : Tryd.prog.cellsOf 24 = 7 := by kernel_rfl
  have hci64 : Tryd.prog.cellsOf 3 = 1 := by kernel_rfl
  have hcu64 : Tryd.prog.cellsOf 22 = 1 := by kernel_rfl
  have hcstring : Tryd.prog.cellsOf 9 = 1 := by kernel_rfl
  have hu : Tryd.prog.underlying 24 = some (.struct (Tryd.prog.fieldsOf 24)) := by kernel_rfl
  have hf : (Tryd.prog.fieldsOf 24).toList.map (·.type) = [3, 22, 22, 3, 3, 3, 9] := by kernel_rfl
  obtain ⟨xs, m, _, hx, hlen, hl, hg⟩ := DataW.trod_struct Tryd.underlying24 h
  rw [hC] at hlen
  match cs, hlen with
  | [c0, c1, c2, c3, c4, c5, c6], _ =>
    match xs, hl with
    | [y0, y1, y2, y3, y4, y5, y6], _ =>
      have g0 := hg 0 _ rfl
      have g1 := hg 1 _ rfl
      have g2 := hg 2 _ rfl
      have g3 := hg 3 _ rfl
      have g4 := hg 4 _ rfl
      have g5 := hg 5 _ rfl
      have g6 := hg 6 _ rfl
      simp [hci64, hcu64, hcstring] at g0 g1 g2 g3 g4 g5 g6
      obtain ⟨x0, e0, _, w0⟩ := DataW.trod_int Tryd.underlying3 g0
      have f0 := i64_of x0 w0
      obtain ⟨x1, e1, _, w1⟩ := DataW.trod_int Tryd.underlying22 g1
      obtain ⟨x1, rfl, f1⟩ := u64_nat x1 w1
      obtain ⟨x2, e2, _, w2⟩ := DataW.trod_int Tryd.underlying22 g2
      obtain ⟨x2, rfl, f2⟩ := u64_nat x2 w2
      obtain ⟨x3, e3, _, w3⟩ := DataW.trod_int Tryd.underlying3 g3
      have f3 := i64_of x3 w3
      obtain ⟨x4, e4, _, w4⟩ := DataW.trod_int Tryd.underlying3 g4
      have f4 := i64_of x4 w4
      obtain ⟨x5, e5, _, w5⟩ := DataW.trod_int Tryd.underlying3 g5
      have f5 := i64_of x5 w5
      obtain ⟨x6, e6, z6, _⟩ := DataW.trod_string Tryd.underlying9 g6
      have f6 : x6.size ≤ 140737488351232 := by
        have := hw x6.data.toList.length (by
          rw [hx]
          simp only [DataW.weights, hu, hf]
          exact DataW.weights_mem_each (j := 6) rfl rfl _ (by simp [z6, DataW.weights]))
        rw [Array.length_toList] at this
        exact this
      simp at e0 e1 e2 e3 e4 e5 e6
      subst e0 e1 e2 e3 e4 e5 e6
      exact ⟨⟨x0, x1, x2, x3, x4, x5, x6⟩, rfl, f0, f1, f2, f3, f4, f5, f6⟩
theorem open_Ca {v : Value} {d : DataW H} {p : List MemPlace} (hv : ∃ cs, v = .agg cs) (hw : ∀ n ∈ d.weights Tryd.prog 24, n ≤ reachBytes) (h : DataW.Trod enc Tryd.prog W base spare held 24 v d p) : ∃ x : Ca, v = .agg x.arr ∧ x.fit := by
  obtain ⟨cs, rfl⟩ := hv
  obtain ⟨fuel, hf⟩ := h
  obtain ⟨e, he, hfit⟩ := cellsCa hf hw
  refine ⟨e, ?_, hfit⟩
  simp [Value.cells] at he
  show Value.agg cs = _
  congr 1
  exact Array.ext' (by rw [he]; rfl)
end

end Go.Proofs.YtiepdfngjfhadaaDoor
