/-
  Capabilities, and what is done with them, as plain data: their cells; two compared; lists of them built, and as arguments.
  No condition.
-/
import Derived.Test.YtbefamedligoeaaLw
namespace Go.Proofs.Ytbefamedligoeaa
set_option maxRecDepth 10000
open Go.ChangeShapes Go.WideShapes Go.ChangeAt Go.RowKit Go.WideElems Go.Sort
set_option linter.unusedVariables false
set_option linter.unusedSimpArgs false

structure Ri where
  h : Nat
  s : Nat
  g : Int
  r : Bool

def Ri.vals (e : Ri) : List Value := [.int .u64 (e.h : Int), .int .u64 (e.s : Int), .int .i64 e.g, .bool e.r]
def Ri.zero : Ri := ⟨0, 0, 0, false⟩
def Ri.arr (e : Ri) : Array Value := e.vals.toArray
theorem Ri.vals_length (e : Ri) : e.vals.length = 4 := rfl
theorem Ri.arr_size (e : Ri) : e.arr.size = 4 := rfl
theorem Ri.vals_one (e : Ri) : ∀ v ∈ e.vals, v.oneCell' = true := by
  intro v hv
  simp [Ri.vals] at hv
  rcases hv with rfl | rfl | rfl | rfl <;> rfl
theorem Ri.arr_one (e : Ri) : e.arr.all (·.oneCell') = true := all_oneCell_toArray e.vals_one
def Ri.fit (e : Ri) : Prop := e.h < 18446744073709551616 ∧ e.s < 18446744073709551616 ∧ (-9223372036854775808 ≤ e.g ∧ e.g ≤ 9223372036854775807) ∧ True

theorem sizeRi : (Try.prog.info? 46).map (·.size) = some 4 := by kernel_rfl
theorem zeroRi : (Try.prog.info? 46).map (fun i => (i.zero, i.size)) = some (some (.agg Ri.zero.arr), 4) := by kernel_rfl
theorem builtRi : Try.prog.built 46 [] = some Ri.zero.arr := by kernel_rfl
theorem infoRi : ∃ i z, Try.prog.info? 46 = some i ∧ i.zero = some z ∧ i.size = 4 ∧ i.bytes = 32 ∧ z.cells.size = 4 := by
  have h : (Try.prog.info? 46).map (fun i => (i.zero, i.size, i.bytes)) = some (some (.agg Ri.zero.arr), 4, 32) := by kernel_rfl
  obtain ⟨i, hi, h0, h1, h2⟩ := info_parts h
  exact ⟨i, _, hi, h0, h1, h2, rfl⟩

theorem bsRi (e : Ri) (w : World) : (Instr.buildSlice 22 1 #[(0, .agg e.arr)]).run Try.prog w = .ok (.slice (some ⟨w.heap.size, 0, none⟩) 1 1) (w.alloc (.cells e.arr 46)) := by kernel_rfl
theorem bsRi0 (w : World) : (Instr.buildSlice 22 0 #[]).run Try.prog w = .ok (.slice (some ⟨w.heap.size, 0, none⟩) 0 0) (w.alloc (.cells #[] 46)) := by kernel_rfl
/- A slice of one, as what is appended; an empty one. -/
theorem box_Ri {ops : Array Oper} {rest : List Oper} {op : Oper} {a : Act} {w : World} {Q : Exit → Act → World → Prop} (hgd : op.guard = none) (x : Operand) (ho : op.op = .buildSlice 22 1 #[(0, x)]) (e : Ri) (hx : a.eval x = .agg e.arr)
    (h : ∀ W, Li Ri.vals w.heap.size (some ⟨w.heap.size, 0, none⟩) [e] W → Below w.heap.size w W → wpList Try.prog ops Q rest (a.put op.dst (.slice (some ⟨w.heap.size, 0, none⟩) 1 1)) W) : wpList Try.prog ops Q (op :: rest) a w :=
  wpList_plain hgd fun _ hK => by
    have hk := hK _ _ (h _ (li_box (f := Ri.vals) w e 46 _ (Nat.le_refl _)) (below_box w _))
    unfold Oper.wp execOp
    simp only [ho, List.map_toArray, List.map_cons, List.map_nil, hx, Sem.run_bind, Sem.run_pure, bsRi, Result.andThen_ok]
    exact hk
theorem box_Ri0 {ops : Array Oper} {rest : List Oper} {op : Oper} {a : Act} {w : World} {Q : Exit → Act → World → Prop} (hgd : op.guard = none) (ho : op.op = .buildSlice 22 0 #[])
    (h : wpList Try.prog ops Q rest (a.put op.dst (.slice (some ⟨w.heap.size, 0, none⟩) 0 0)) (w.alloc (.cells #[] 46))) : wpList Try.prog ops Q (op :: rest) a w :=
  wpList_plain hgd fun _ hK => by
    have hk := hK _ _ h
    unfold Oper.wp execOp
    simp only [ho, List.map_toArray, List.map_nil, Sem.run_bind, Sem.run_pure, bsRi0, Result.andThen_ok]
    exact hk

def Ri.same (a b : Ri) : Bool := decide (a.h = b.h ∧ a.s = b.s ∧ a.g = b.g ∧ a.r = b.r)
theorem Ri.same_iff (a b : Ri) : Ri.same a b = true ↔ a = b := by
  unfold Ri.same
  rw [decide_eq_true_eq]
  constructor
  · rintro ⟨h0, h1, h2, h3⟩
    cases a; cases b
    simp_all
  · rintro rfl
    exact ⟨rfl, rfl, rfl, rfl⟩
theorem Ri.same_self (a : Ri) : Ri.same a a = true := (Ri.same_iff a a).2 rfl
theorem Ri.same_no {a b : Ri} (h : a ≠ b) : Ri.same a b = false := by
  cases e : Ri.same a b
  · rfl
  · exact absurd ((Ri.same_iff a b).1 e) h
theorem equalRi (a b : Ri) (w : World) : (Op.equal 46 (.agg a.arr) (.agg b.arr)).run Try.prog w = .ok (Ri.same a b) w := by
  obtain ⟨h, s, g, r⟩ := a
  obtain ⟨h_, s_, g_, r_⟩ := b
  by_cases h0 : h = h_
  · by_cases h1 : s = s_
    · by_cases h2 : g = g_
      · by_cases h3 : r = r_
        · simp [go_sem, Op.equal, Op.maxDepth, Ri.arr, Ri.vals, Ri.same, *]
        · simp [go_sem, Op.equal, Op.maxDepth, Ri.arr, Ri.vals, Ri.same, *]
      · simp [go_sem, Op.equal, Op.maxDepth, Ri.arr, Ri.vals, Ri.same, *]
    · have h9 : ¬ (s : Int) = (s_ : Int) := by omega
      simp [go_sem, Op.equal, Op.maxDepth, Ri.arr, Ri.vals, Ri.same, *]
  · have h9 : ¬ (h : Int) = (h_ : Int) := by omega
    simp [go_sem, Op.equal, Op.maxDepth, Ri.arr, Ri.vals, Ri.same, *]
theorem eqlRi (a b : Ri) (c : Bool) (h : Ri.same a b = c) (w : World) : (binOp .eql 46 (.agg a.arr) (.agg b.arr)).run Try.prog w = .ok (.bool c) w := by
  simp only [binOp]
  simp [equalRi, h]
theorem neqRi (a b : Ri) (c : Bool) (h : Ri.same a b = c) (w : World) : (binOp .neq 46 (.agg a.arr) (.agg b.arr)).run Try.prog w = .ok (.bool (!c)) w := by
  simp only [binOp]
  simp [equalRi, h]

section
variable {H : Type} {enc : TypeId × Value → H} {W : World} {base : Nat} {spare : Nat → Bool} {held : Bool}
theorem cellsRi {cs : List Value} {fuel : Nat} {x : DataW H × List MemPlace} (h : DataW.trod enc Try.prog W base spare held fuel 46 cs = some x) (hw : ∀ n ∈ x.1.weights Try.prog 46, n ≤ reachBytes) : ∃ e : Ri, cs = e.vals ∧ e.fit := by
  have hC : Try.prog.cellsOf 46 = 4 := by kernel_rfl
  have hcu64 : Try.prog.cellsOf 23 = 1 := by kernel_rfl
  have hci64 : Try.prog.cellsOf 3 = 1 := by kernel_rfl
  have hcbool : Try.prog.cellsOf 4 = 1 := by kernel_rfl
  obtain ⟨xs, m, _, hx, hlen, hl, hg⟩ := DataW.trod_struct Try.underlying46 h
  rw [hC] at hlen
  match cs, hlen with
  | [c0, c1, c2, c3], _ =>
    match xs, hl with
    | [y0, y1, y2, y3], _ =>
      have g0 := hg 0 _ rfl
      have g1 := hg 1 _ rfl
      have g2 := hg 2 _ rfl
      have g3 := hg 3 _ rfl
      simp [hcu64, hci64, hcbool] at g0 g1 g2 g3
      obtain ⟨x0, e0, _, w0⟩ := DataW.trod_int Try.underlying23 g0
      obtain ⟨x0, rfl, f0⟩ := u64_nat x0 w0
      obtain ⟨x1, e1, _, w1⟩ := DataW.trod_int Try.underlying23 g1
      obtain ⟨x1, rfl, f1⟩ := u64_nat x1 w1
      obtain ⟨x2, e2, _, w2⟩ := DataW.trod_int Try.underlying3 g2
      have f2 := i64_of x2 w2
      obtain ⟨x3, e3, _⟩ := DataW.trod_bool Try.underlying4 g3
      have f3 : True := trivial
      simp at e0 e1 e2 e3
      subst e0 e1 e2 e3
      exact ⟨⟨x0, x1, x2, x3⟩, rfl, f0, f1, f2, f3⟩
theorem open_Ri {v : Value} {d : DataW H} {p : List MemPlace} (hv : ∃ cs, v = .agg cs) (hw : ∀ n ∈ d.weights Try.prog 46, n ≤ reachBytes) (h : DataW.Trod enc Try.prog W base spare held 46 v d p) : ∃ x : Ri, v = .agg x.arr ∧ x.fit := by
  obtain ⟨cs, rfl⟩ := hv
  obtain ⟨fuel, hf⟩ := h
  obtain ⟨e, he, hfit⟩ := cellsRi hf hw
  refine ⟨e, ?_, hfit⟩
  simp [Value.cells] at he
  show Value.agg cs = _
  congr 1
  exact Array.ext' (by rw [he]; rfl)
end

section
variable {H : Type} {enc : TypeId × Value → H} {W : World} {base : Nat} {spare : Nat → Bool} {held : Bool}
theorem open_Ris {v : Value} {d : DataW H} {p : List MemPlace} (hv : ∃ a n c, v = .slice a n c) (hw : ∀ n ∈ d.weights Try.prog 22, n ≤ reachBytes) (h : DataW.Trod enc Try.prog W base spare held 22 v d p) :
    ∃ (a : Option Addr) (L : List Ri) (c : Nat), v = .slice a L.length c ∧ L.length * 32 ≤ 140737488351232 ∧ L.length ≤ c ∧ c ≤ maxLen ∧ (∀ x ∈ L, x.fit) ∧ Li Ri.vals 0 a L W :=
  open_liw Ri.zero Ri.vals_length (by decide) Try.underlying22 (by kernel_rfl) (by kernel_rfl) cellsRi hv hw h
end

structure Dx where
  d : Int
  h : Nat
  s : Nat
  g : Int

def Dx.vals (e : Dx) : List Value := [.int .i64 e.d, .int .u64 (e.h : Int), .int .u64 (e.s : Int), .int .i64 e.g]
def Dx.zero : Dx := ⟨0, 0, 0, 0⟩
def Dx.arr (e : Dx) : Array Value := e.vals.toArray
theorem Dx.vals_length (e : Dx) : e.vals.length = 4 := rfl
theorem Dx.arr_size (e : Dx) : e.arr.size = 4 := rfl
theorem Dx.vals_one (e : Dx) : ∀ v ∈ e.vals, v.oneCell' = true := by
  intro v hv
  simp [Dx.vals] at hv
  rcases hv with rfl | rfl | rfl | rfl <;> rfl
theorem Dx.arr_one (e : Dx) : e.arr.all (·.oneCell') = true := all_oneCell_toArray e.vals_one
def Dx.fit (e : Dx) : Prop := (-9223372036854775808 ≤ e.d ∧ e.d ≤ 9223372036854775807) ∧ e.h < 18446744073709551616 ∧ e.s < 18446744073709551616 ∧ (-9223372036854775808 ≤ e.g ∧ e.g ≤ 9223372036854775807)

theorem sizeDx : (Try.prog.info? 25).map (·.size) = some 4 := by kernel_rfl
theorem zeroDx : (Try.prog.info? 25).map (fun i => (i.zero, i.size)) = some (some (.agg Dx.zero.arr), 4) := by kernel_rfl
theorem builtDx : Try.prog.built 25 [] = some Dx.zero.arr := by kernel_rfl
theorem infoDx : ∃ i z, Try.prog.info? 25 = some i ∧ i.zero = some z ∧ i.size = 4 ∧ i.bytes = 32 ∧ z.cells.size = 4 := by
  have h : (Try.prog.info? 25).map (fun i => (i.zero, i.size, i.bytes)) = some (some (.agg Dx.zero.arr), 4, 32) := by kernel_rfl
  obtain ⟨i, hi, h0, h1, h2⟩ := info_parts h
  exact ⟨i, _, hi, h0, h1, h2, rfl⟩

theorem bsDx (e : Dx) (w : World) : (Instr.buildSlice 37 1 #[(0, .agg e.arr)]).run Try.prog w = .ok (.slice (some ⟨w.heap.size, 0, none⟩) 1 1) (w.alloc (.cells e.arr 25)) := by kernel_rfl
theorem bsDx0 (w : World) : (Instr.buildSlice 37 0 #[]).run Try.prog w = .ok (.slice (some ⟨w.heap.size, 0, none⟩) 0 0) (w.alloc (.cells #[] 25)) := by kernel_rfl
/- A slice of one, as what is appended; an empty one. -/
theorem box_Dx {ops : Array Oper} {rest : List Oper} {op : Oper} {a : Act} {w : World} {Q : Exit → Act → World → Prop} (hgd : op.guard = none) (x : Operand) (ho : op.op = .buildSlice 37 1 #[(0, x)]) (e : Dx) (hx : a.eval x = .agg e.arr)
    (h : ∀ W, Li Dx.vals w.heap.size (some ⟨w.heap.size, 0, none⟩) [e] W → Below w.heap.size w W → wpList Try.prog ops Q rest (a.put op.dst (.slice (some ⟨w.heap.size, 0, none⟩) 1 1)) W) : wpList Try.prog ops Q (op :: rest) a w :=
  wpList_plain hgd fun _ hK => by
    have hk := hK _ _ (h _ (li_box (f := Dx.vals) w e 25 _ (Nat.le_refl _)) (below_box w _))
    unfold Oper.wp execOp
    simp only [ho, List.map_toArray, List.map_cons, List.map_nil, hx, Sem.run_bind, Sem.run_pure, bsDx, Result.andThen_ok]
    exact hk
theorem box_Dx0 {ops : Array Oper} {rest : List Oper} {op : Oper} {a : Act} {w : World} {Q : Exit → Act → World → Prop} (hgd : op.guard = none) (ho : op.op = .buildSlice 37 0 #[])
    (h : wpList Try.prog ops Q rest (a.put op.dst (.slice (some ⟨w.heap.size, 0, none⟩) 0 0)) (w.alloc (.cells #[] 25))) : wpList Try.prog ops Q (op :: rest) a w :=
  wpList_plain hgd fun _ hK => by
    have hk := hK _ _ h
    unfold Oper.wp execOp
    simp only [ho, List.map_toArray, List.map_nil, Sem.run_bind, Sem.run_pure, bsDx0, Result.andThen_ok]
    exact hk

def Dx.same (a b : Dx) : Bool := decide (a.d = b.d ∧ a.h = b.h ∧ a.s = b.s ∧ a.g = b.g)
theorem Dx.same_iff (a b : Dx) : Dx.same a b = true ↔ a = b := by
  unfold Dx.same
  rw [decide_eq_true_eq]
  constructor
  · rintro ⟨h0, h1, h2, h3⟩
    cases a; cases b
    simp_all
  · rintro rfl
    exact ⟨rfl, rfl, rfl, rfl⟩
theorem Dx.same_self (a : Dx) : Dx.same a a = true := (Dx.same_iff a a).2 rfl
theorem Dx.same_no {a b : Dx} (h : a ≠ b) : Dx.same a b = false := by
  cases e : Dx.same a b
  · rfl
  · exact absurd ((Dx.same_iff a b).1 e) h
theorem equalDx (a b : Dx) (w : World) : (Op.equal 25 (.agg a.arr) (.agg b.arr)).run Try.prog w = .ok (Dx.same a b) w := by
  obtain ⟨d, h, s, g⟩ := a
  obtain ⟨d_, h_, s_, g_⟩ := b
  by_cases h0 : d = d_
  · by_cases h1 : h = h_
    · by_cases h2 : s = s_
      · by_cases h3 : g = g_
        · simp [go_sem, Op.equal, Op.maxDepth, Dx.arr, Dx.vals, Dx.same, *]
        · simp [go_sem, Op.equal, Op.maxDepth, Dx.arr, Dx.vals, Dx.same, *]
      · have h9 : ¬ (s : Int) = (s_ : Int) := by omega
        simp [go_sem, Op.equal, Op.maxDepth, Dx.arr, Dx.vals, Dx.same, *]
    · have h9 : ¬ (h : Int) = (h_ : Int) := by omega
      simp [go_sem, Op.equal, Op.maxDepth, Dx.arr, Dx.vals, Dx.same, *]
  · simp [go_sem, Op.equal, Op.maxDepth, Dx.arr, Dx.vals, Dx.same, *]
theorem eqlDx (a b : Dx) (c : Bool) (h : Dx.same a b = c) (w : World) : (binOp .eql 25 (.agg a.arr) (.agg b.arr)).run Try.prog w = .ok (.bool c) w := by
  simp only [binOp]
  simp [equalDx, h]
theorem neqDx (a b : Dx) (c : Bool) (h : Dx.same a b = c) (w : World) : (binOp .neq 25 (.agg a.arr) (.agg b.arr)).run Try.prog w = .ok (.bool (!c)) w := by
  simp only [binOp]
  simp [equalDx, h]

section
variable {H : Type} {enc : TypeId × Value → H} {W : World} {base : Nat} {spare : Nat → Bool} {held : Bool}
theorem cellsDx {cs : List Value} {fuel : Nat} {x : DataW H × List MemPlace} (h : DataW.trod enc Try.prog W base spare held fuel 25 cs = some x) (hw : ∀ n ∈ x.1.weights Try.prog 25, n ≤ reachBytes) : ∃ e : Dx, cs = e.vals ∧ e.fit := by
  have hC : Try.prog.cellsOf 25 = 4 := by kernel_rfl
  have hci64 : Try.prog.cellsOf 3 = 1 := by kernel_rfl
  have hcu64 : Try.prog.cellsOf 23 = 1 := by kernel_rfl
  obtain ⟨xs, m, _, hx, hlen, hl, hg⟩ := DataW.trod_struct Try.underlying25 h
  rw [hC] at hlen
  match cs, hlen with
  | [c0, c1, c2, c3], _ =>
    match xs, hl with
    | [y0, y1, y2, y3], _ =>
      have g0 := hg 0 _ rfl
      have g1 := hg 1 _ rfl
      have g2 := hg 2 _ rfl
      have g3 := hg 3 _ rfl
      simp [hci64, hcu64] at g0 g1 g2 g3
      obtain ⟨x0, e0, _, w0⟩ := DataW.trod_int Try.underlying3 g0
      have f0 := i64_of x0 w0
      obtain ⟨x1, e1, _, w1⟩ := DataW.trod_int Try.underlying23 g1
      obtain ⟨x1, rfl, f1⟩ := u64_nat x1 w1
      obtain ⟨x2, e2, _, w2⟩ := DataW.trod_int Try.underlying23 g2
      obtain ⟨x2, rfl, f2⟩ := u64_nat x2 w2
      obtain ⟨x3, e3, _, w3⟩ := DataW.trod_int Try.underlying3 g3
      have f3 := i64_of x3 w3
      simp at e0 e1 e2 e3
      subst e0 e1 e2 e3
      exact ⟨⟨x0, x1, x2, x3⟩, rfl, f0, f1, f2, f3⟩
theorem open_Dx {v : Value} {d : DataW H} {p : List MemPlace} (hv : ∃ cs, v = .agg cs) (hw : ∀ n ∈ d.weights Try.prog 25, n ≤ reachBytes) (h : DataW.Trod enc Try.prog W base spare held 25 v d p) : ∃ x : Dx, v = .agg x.arr ∧ x.fit := by
  obtain ⟨cs, rfl⟩ := hv
  obtain ⟨fuel, hf⟩ := h
  obtain ⟨e, he, hfit⟩ := cellsDx hf hw
  refine ⟨e, ?_, hfit⟩
  simp [Value.cells] at he
  show Value.agg cs = _
  congr 1
  exact Array.ext' (by rw [he]; rfl)
end

section
variable {H : Type} {enc : TypeId × Value → H} {W : World} {base : Nat} {spare : Nat → Bool} {held : Bool}
theorem open_Dxs {v : Value} {d : DataW H} {p : List MemPlace} (hv : ∃ a n c, v = .slice a n c) (hw : ∀ n ∈ d.weights Try.prog 37, n ≤ reachBytes) (h : DataW.Trod enc Try.prog W base spare held 37 v d p) :
    ∃ (a : Option Addr) (L : List Dx) (c : Nat), v = .slice a L.length c ∧ L.length * 32 ≤ 140737488351232 ∧ L.length ≤ c ∧ c ≤ maxLen ∧ (∀ x ∈ L, x.fit) ∧ Li Dx.vals 0 a L W :=
  open_liw Dx.zero Dx.vals_length (by decide) Try.underlying37 (by kernel_rfl) (by kernel_rfl) cellsDx hv hw h
end

end Go.Proofs.Ytbefamedligoeaa
