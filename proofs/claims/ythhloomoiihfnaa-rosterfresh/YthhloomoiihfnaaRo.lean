/-
  Sessions, and what is done with them, as plain data: their cells; two compared; lists of them built, and as arguments; a roster as an argument.
  No condition.
-/
import Derived.Test.YthhloomoiihfnaaLw
namespace Go.Proofs.Ythhloomoiihfnaa
set_option maxRecDepth 10000
open Go.ChangeShapes Go.WideShapes Go.ChangeAt Go.RowKit Go.WideElems Go.Sort
set_option linter.unusedVariables false
set_option linter.unusedSimpArgs false

structure Se where
  i : Nat
  n : Nat

def Se.vals (e : Se) : List Value := [.int .u64 (e.i : Int), .int .u64 (e.n : Int)]
def Se.zero : Se := ⟨0, 0⟩
def Se.arr (e : Se) : Array Value := e.vals.toArray
theorem Se.vals_length (e : Se) : e.vals.length = 2 := rfl
theorem Se.arr_size (e : Se) : e.arr.size = 2 := rfl
theorem Se.vals_one (e : Se) : ∀ v ∈ e.vals, v.oneCell' = true := by
  intro v hv
  simp [Se.vals] at hv
  rcases hv with rfl | rfl <;> rfl
theorem Se.arr_one (e : Se) : e.arr.all (·.oneCell') = true := all_oneCell_toArray e.vals_one
def Se.fit (e : Se) : Prop := e.i < 18446744073709551616 ∧ e.n < 18446744073709551616

theorem sizeSe : (Try.prog.info? 41).map (·.size) = some 2 := by kernel_rfl
theorem zeroSe : (Try.prog.info? 41).map (fun i => (i.zero, i.size)) = some (some (.agg Se.zero.arr), 2) := by kernel_rfl
theorem builtSe : Try.prog.built 41 [] = some Se.zero.arr := by kernel_rfl
theorem infoSe : ∃ i z, Try.prog.info? 41 = some i ∧ i.zero = some z ∧ i.size = 2 ∧ i.bytes = 16 ∧ z.cells.size = 2 := by
  have h : (Try.prog.info? 41).map (fun i => (i.zero, i.size, i.bytes)) = some (some (.agg Se.zero.arr), 2, 16) := by kernel_rfl
  obtain ⟨i, hi, h0, h1, h2⟩ := info_parts h
  exact ⟨i, _, hi, h0, h1, h2, rfl⟩

theorem bsSe (e : Se) (w : World) : (Instr.buildSlice 23 1 #[(0, .agg e.arr)]).run Try.prog w = .ok (.slice (some ⟨w.heap.size, 0, none⟩) 1 1) (w.alloc (.cells e.arr 41)) := by kernel_rfl
theorem bsSe0 (w : World) : (Instr.buildSlice 23 0 #[]).run Try.prog w = .ok (.slice (some ⟨w.heap.size, 0, none⟩) 0 0) (w.alloc (.cells #[] 41)) := by kernel_rfl
/- A slice of one, as what is appended; an empty one. -/
theorem box_Se {ops : Array Oper} {rest : List Oper} {op : Oper} {a : Act} {w : World} {Q : Exit → Act → World → Prop} (hgd : op.guard = none) (x : Operand) (ho : op.op = .buildSlice 23 1 #[(0, x)]) (e : Se) (hx : a.eval x = .agg e.arr)
    (h : ∀ W, Li Se.vals w.heap.size (some ⟨w.heap.size, 0, none⟩) [e] W → Below w.heap.size w W → wpList Try.prog ops Q rest (a.put op.dst (.slice (some ⟨w.heap.size, 0, none⟩) 1 1)) W) : wpList Try.prog ops Q (op :: rest) a w :=
  wpList_plain hgd fun _ hK => by
    have hk := hK _ _ (h _ (li_box (f := Se.vals) w e 41 _ (Nat.le_refl _)) (below_box w _))
    unfold Oper.wp execOp
    simp only [ho, List.map_toArray, List.map_cons, List.map_nil, hx, Sem.run_bind, Sem.run_pure, bsSe, Result.andThen_ok]
    exact hk
theorem box_Se0 {ops : Array Oper} {rest : List Oper} {op : Oper} {a : Act} {w : World} {Q : Exit → Act → World → Prop} (hgd : op.guard = none) (ho : op.op = .buildSlice 23 0 #[])
    (h : wpList Try.prog ops Q rest (a.put op.dst (.slice (some ⟨w.heap.size, 0, none⟩) 0 0)) (w.alloc (.cells #[] 41))) : wpList Try.prog ops Q (op :: rest) a w :=
  wpList_plain hgd fun _ hK => by
    have hk := hK _ _ h
    unfold Oper.wp execOp
    simp only [ho, List.map_toArray, List.map_nil, Sem.run_bind, Sem.run_pure, bsSe0, Result.andThen_ok]
    exact hk

theorem wp_Se0 {op : Oper} {a : Act} {w : World} {K : Act → World → Prop} {Q : Exit → Act → World → Prop} (ho : op.op = .buildSlice 23 0 #[])
    (h : ∀ g W, Lg Se.vals 2 41 g (some ⟨g, 0, none⟩) 0 [] W → Below w.heap.size w W → w.heap.size ≤ g → g < W.heap.size → K (a.put op.dst (.slice (some ⟨g, 0, none⟩) 0 0)) W) : op.wp Try.prog a w K Q := by
  have hk := h _ _ (Lg.of (Ow.empty (blk_new w #[] 41)) (Nat.le_refl _)) (below_box w _) (Nat.le_refl _) (by simp)
  unfold Oper.wp execOp
  simp only [ho, List.map_toArray, List.map_nil, Sem.run_bind, Sem.run_pure, bsSe0, Result.andThen_ok]
  exact hk
theorem wp_Se {op : Oper} {a : Act} {w : World} {K : Act → World → Prop} {Q : Exit → Act → World → Prop} (x : Operand) (ho : op.op = .buildSlice 23 1 #[(0, x)]) (e : Se) (hx : a.eval x = .agg e.arr)
    (h : ∀ g W, Li Se.vals 0 (some ⟨g, 0, none⟩) [e] W → Below w.heap.size w W → K (a.put op.dst (.slice (some ⟨g, 0, none⟩) 1 1)) W) : op.wp Try.prog a w K Q := by
  have hk := h _ _ (li_box (f := Se.vals) w e 41 0 (Nat.zero_le _)) (below_box w _)
  unfold Oper.wp execOp
  simp only [ho, List.map_toArray, List.map_cons, List.map_nil, hx, Sem.run_bind, Sem.run_pure, bsSe, Result.andThen_ok]
  exact hk

def Se.same (a b : Se) : Bool := decide (a.i = b.i ∧ a.n = b.n)
theorem Se.same_iff (a b : Se) : Se.same a b = true ↔ a = b := by
  unfold Se.same
  rw [decide_eq_true_eq]
  constructor
  · rintro ⟨h0, h1⟩
    cases a; cases b
    simp_all
  · rintro rfl
    exact ⟨rfl, rfl⟩
theorem Se.same_self (a : Se) : Se.same a a = true := (Se.same_iff a a).2 rfl
theorem Se.same_no {a b : Se} (h : a ≠ b) : Se.same a b = false := by
  cases e : Se.same a b
  · rfl
  · exact absurd ((Se.same_iff a b).1 e) h

theorem equalSe (a b : Se) (w : World) : (Op.equal 41 (.agg a.arr) (.agg b.arr)).run Try.prog w = .ok (Se.same a b) w := by
  obtain ⟨i, n⟩ := a
  obtain ⟨i_, n_⟩ := b
  by_cases h0 : i = i_
  · by_cases h1 : n = n_
    · simp [go_sem, Op.equal, Op.maxDepth, Se.arr, Se.vals, Se.same, *]
    · have h9 : ¬ (n : Int) = (n_ : Int) := by omega
      simp [go_sem, Op.equal, Op.maxDepth, Se.arr, Se.vals, Se.same, *]
  · have h9 : ¬ (i : Int) = (i_ : Int) := by omega
    simp [go_sem, Op.equal, Op.maxDepth, Se.arr, Se.vals, Se.same, *]
theorem eqlSe (a b : Se) (c : Bool) (h : Se.same a b = c) (w : World) : (binOp .eql 41 (.agg a.arr) (.agg b.arr)).run Try.prog w = .ok (.bool c) w := by
  simp only [binOp]
  simp [equalSe, h]
theorem neqSe (a b : Se) (c : Bool) (h : Se.same a b = c) (w : World) : (binOp .neq 41 (.agg a.arr) (.agg b.arr)).run Try.prog w = .ok (.bool (!c)) w := by
  simp only [binOp]
  simp [equalSe, h]

section
variable {H : Type} {enc : TypeId × Value → H} {W : World} {base : Nat} {spare : Nat → Bool} {held : Bool}
theorem cellsSe {cs : List Value} {fuel : Nat} {x : DataW H × List MemPlace} (h : DataW.trod enc Try.prog W base spare held fuel 41 cs = some x) (hw : ∀ n ∈ x.1.weights Try.prog 41, n ≤ reachBytes) : ∃ e : Se, cs = e.vals ∧ e.fit := by
  have hC : Try.prog.cellsOf 41 = 2 := by kernel_rfl
  have hcu64 : Try.prog.cellsOf 22 = 1 := by kernel_rfl
  obtain ⟨xs, m, _, hx, hlen, hl, hg⟩ := DataW.trod_struct Try.underlying41 h
  rw [hC] at hlen
  match cs, hlen with
  | [c0, c1], _ =>
    match xs, hl with
    | [y0, y1], _ =>
      have g0 := hg 0 _ rfl
      have g1 := hg 1 _ rfl
      simp [hcu64] at g0 g1
      obtain ⟨x0, e0, _, w0⟩ := DataW.trod_int Try.underlying22 g0
      obtain ⟨x0, rfl, f0⟩ := u64_nat x0 w0
      obtain ⟨x1, e1, _, w1⟩ := DataW.trod_int Try.underlying22 g1
      obtain ⟨x1, rfl, f1⟩ := u64_nat x1 w1
      simp at e0 e1
      subst e0 e1
      exact ⟨⟨x0, x1⟩, rfl, f0, f1⟩
theorem open_Se {v : Value} {d : DataW H} {p : List MemPlace} (hv : ∃ cs, v = .agg cs) (hw : ∀ n ∈ d.weights Try.prog 41, n ≤ reachBytes) (h : DataW.Trod enc Try.prog W base spare held 41 v d p) : ∃ x : Se, v = .agg x.arr ∧ x.fit := by
  obtain ⟨cs, rfl⟩ := hv
  obtain ⟨fuel, hf⟩ := h
  obtain ⟨e, he, hfit⟩ := cellsSe hf hw
  refine ⟨e, ?_, hfit⟩
  simp [Value.cells] at he
  show Value.agg cs = _
  congr 1
  exact Array.ext' (by rw [he]; rfl)
end

section
variable {H : Type} {enc : TypeId × Value → H} {W : World} {base : Nat} {spare : Nat → Bool} {held : Bool}
theorem open_Ses {v : Value} {d : DataW H} {p : List MemPlace} (hv : ∃ a n c, v = .slice a n c) (hw : ∀ n ∈ d.weights Try.prog 23, n ≤ reachBytes) (h : DataW.Trod enc Try.prog W base spare held 23 v d p) :
    ∃ (a : Option Addr) (L : List Se) (c : Nat), v = .slice a L.length c ∧ L.length * 16 ≤ 140737488351232 ∧ L.length ≤ c ∧ c ≤ maxLen ∧ (∀ x ∈ L, x.fit) ∧ Li Se.vals 0 a L W :=
  open_liw Se.zero Se.vals_length (by decide) Try.underlying23 (by kernel_rfl) (by kernel_rfl) cellsSe hv hw h
end

structure Rx where
  d : Int
  i : Nat

def Rx.vals (e : Rx) : List Value := [.int .i64 e.d, .int .u64 (e.i : Int)]
def Rx.zero : Rx := ⟨0, 0⟩
def Rx.arr (e : Rx) : Array Value := e.vals.toArray
theorem Rx.vals_length (e : Rx) : e.vals.length = 2 := rfl
theorem Rx.arr_size (e : Rx) : e.arr.size = 2 := rfl
theorem Rx.vals_one (e : Rx) : ∀ v ∈ e.vals, v.oneCell' = true := by
  intro v hv
  simp [Rx.vals] at hv
  rcases hv with rfl | rfl <;> rfl
theorem Rx.arr_one (e : Rx) : e.arr.all (·.oneCell') = true := all_oneCell_toArray e.vals_one
def Rx.fit (e : Rx) : Prop := (-9223372036854775808 ≤ e.d ∧ e.d ≤ 9223372036854775807) ∧ e.i < 18446744073709551616

theorem sizeRx : (Try.prog.info? 39).map (·.size) = some 2 := by kernel_rfl
theorem zeroRx : (Try.prog.info? 39).map (fun i => (i.zero, i.size)) = some (some (.agg Rx.zero.arr), 2) := by kernel_rfl
theorem builtRx : Try.prog.built 39 [] = some Rx.zero.arr := by kernel_rfl
theorem infoRx : ∃ i z, Try.prog.info? 39 = some i ∧ i.zero = some z ∧ i.size = 2 ∧ i.bytes = 16 ∧ z.cells.size = 2 := by
  have h : (Try.prog.info? 39).map (fun i => (i.zero, i.size, i.bytes)) = some (some (.agg Rx.zero.arr), 2, 16) := by kernel_rfl
  obtain ⟨i, hi, h0, h1, h2⟩ := info_parts h
  exact ⟨i, _, hi, h0, h1, h2, rfl⟩

theorem bsRx (e : Rx) (w : World) : (Instr.buildSlice 37 1 #[(0, .agg e.arr)]).run Try.prog w = .ok (.slice (some ⟨w.heap.size, 0, none⟩) 1 1) (w.alloc (.cells e.arr 39)) := by kernel_rfl
theorem bsRx0 (w : World) : (Instr.buildSlice 37 0 #[]).run Try.prog w = .ok (.slice (some ⟨w.heap.size, 0, none⟩) 0 0) (w.alloc (.cells #[] 39)) := by kernel_rfl
/- A slice of one, as what is appended; an empty one. -/
theorem box_Rx {ops : Array Oper} {rest : List Oper} {op : Oper} {a : Act} {w : World} {Q : Exit → Act → World → Prop} (hgd : op.guard = none) (x : Operand) (ho : op.op = .buildSlice 37 1 #[(0, x)]) (e : Rx) (hx : a.eval x = .agg e.arr)
    (h : ∀ W, Li Rx.vals w.heap.size (some ⟨w.heap.size, 0, none⟩) [e] W → Below w.heap.size w W → wpList Try.prog ops Q rest (a.put op.dst (.slice (some ⟨w.heap.size, 0, none⟩) 1 1)) W) : wpList Try.prog ops Q (op :: rest) a w :=
  wpList_plain hgd fun _ hK => by
    have hk := hK _ _ (h _ (li_box (f := Rx.vals) w e 39 _ (Nat.le_refl _)) (below_box w _))
    unfold Oper.wp execOp
    simp only [ho, List.map_toArray, List.map_cons, List.map_nil, hx, Sem.run_bind, Sem.run_pure, bsRx, Result.andThen_ok]
    exact hk
theorem box_Rx0 {ops : Array Oper} {rest : List Oper} {op : Oper} {a : Act} {w : World} {Q : Exit → Act → World → Prop} (hgd : op.guard = none) (ho : op.op = .buildSlice 37 0 #[])
    (h : wpList Try.prog ops Q rest (a.put op.dst (.slice (some ⟨w.heap.size, 0, none⟩) 0 0)) (w.alloc (.cells #[] 39))) : wpList Try.prog ops Q (op :: rest) a w :=
  wpList_plain hgd fun _ hK => by
    have hk := hK _ _ h
    unfold Oper.wp execOp
    simp only [ho, List.map_toArray, List.map_nil, Sem.run_bind, Sem.run_pure, bsRx0, Result.andThen_ok]
    exact hk

theorem wp_Rx0 {op : Oper} {a : Act} {w : World} {K : Act → World → Prop} {Q : Exit → Act → World → Prop} (ho : op.op = .buildSlice 37 0 #[])
    (h : ∀ g W, Lg Rx.vals 2 39 g (some ⟨g, 0, none⟩) 0 [] W → Below w.heap.size w W → w.heap.size ≤ g → g < W.heap.size → K (a.put op.dst (.slice (some ⟨g, 0, none⟩) 0 0)) W) : op.wp Try.prog a w K Q := by
  have hk := h _ _ (Lg.of (Ow.empty (blk_new w #[] 39)) (Nat.le_refl _)) (below_box w _) (Nat.le_refl _) (by simp)
  unfold Oper.wp execOp
  simp only [ho, List.map_toArray, List.map_nil, Sem.run_bind, Sem.run_pure, bsRx0, Result.andThen_ok]
  exact hk
theorem wp_Rx {op : Oper} {a : Act} {w : World} {K : Act → World → Prop} {Q : Exit → Act → World → Prop} (x : Operand) (ho : op.op = .buildSlice 37 1 #[(0, x)]) (e : Rx) (hx : a.eval x = .agg e.arr)
    (h : ∀ g W, Li Rx.vals 0 (some ⟨g, 0, none⟩) [e] W → Below w.heap.size w W → K (a.put op.dst (.slice (some ⟨g, 0, none⟩) 1 1)) W) : op.wp Try.prog a w K Q := by
  have hk := h _ _ (li_box (f := Rx.vals) w e 39 0 (Nat.zero_le _)) (below_box w _)
  unfold Oper.wp execOp
  simp only [ho, List.map_toArray, List.map_cons, List.map_nil, hx, Sem.run_bind, Sem.run_pure, bsRx, Result.andThen_ok]
  exact hk

def Rx.same (a b : Rx) : Bool := decide (a.d = b.d ∧ a.i = b.i)
theorem Rx.same_iff (a b : Rx) : Rx.same a b = true ↔ a = b := by
  unfold Rx.same
  rw [decide_eq_true_eq]
  constructor
  · rintro ⟨h0, h1⟩
    cases a; cases b
    simp_all
  · rintro rfl
    exact ⟨rfl, rfl⟩
theorem Rx.same_self (a : Rx) : Rx.same a a = true := (Rx.same_iff a a).2 rfl
theorem Rx.same_no {a b : Rx} (h : a ≠ b) : Rx.same a b = false := by
  cases e : Rx.same a b
  · rfl
  · exact absurd ((Rx.same_iff a b).1 e) h

theorem equalRx (a b : Rx) (w : World) : (Op.equal 39 (.agg a.arr) (.agg b.arr)).run Try.prog w = .ok (Rx.same a b) w := by
  obtain ⟨d, i⟩ := a
  obtain ⟨d_, i_⟩ := b
  by_cases h0 : d = d_
  · by_cases h1 : i = i_
    · simp [go_sem, Op.equal, Op.maxDepth, Rx.arr, Rx.vals, Rx.same, *]
    · have h9 : ¬ (i : Int) = (i_ : Int) := by omega
      simp [go_sem, Op.equal, Op.maxDepth, Rx.arr, Rx.vals, Rx.same, *]
  · simp [go_sem, Op.equal, Op.maxDepth, Rx.arr, Rx.vals, Rx.same, *]
theorem eqlRx (a b : Rx) (c : Bool) (h : Rx.same a b = c) (w : World) : (binOp .eql 39 (.agg a.arr) (.agg b.arr)).run Try.prog w = .ok (.bool c) w := by
  simp only [binOp]
  simp [equalRx, h]
theorem neqRx (a b : Rx) (c : Bool) (h : Rx.same a b = c) (w : World) : (binOp .neq 39 (.agg a.arr) (.agg b.arr)).run Try.prog w = .ok (.bool (!c)) w := by
  simp only [binOp]
  simp [equalRx, h]

section
variable {H : Type} {enc : TypeId × Value → H} {W : World} {base : Nat} {spare : Nat → Bool} {held : Bool}
theorem cellsRx {cs : List Value} {fuel : Nat} {x : DataW H × List MemPlace} (h : DataW.trod enc Try.prog W base spare held fuel 39 cs = some x) (hw : ∀ n ∈ x.1.weights Try.prog 39, n ≤ reachBytes) : ∃ e : Rx, cs = e.vals ∧ e.fit := by
  have hC : Try.prog.cellsOf 39 = 2 := by kernel_rfl
  have hci64 : Try.prog.cellsOf 3 = 1 := by kernel_rfl
  have hcu64 : Try.prog.cellsOf 22 = 1 := by kernel_rfl
  obtain ⟨xs, m, _, hx, hlen, hl, hg⟩ := DataW.trod_struct Try.underlying39 h
  rw [hC] at hlen
  match cs, hlen with
  | [c0, c1], _ =>
    match xs, hl with
    | [y0, y1], _ =>
      have g0 := hg 0 _ rfl
      have g1 := hg 1 _ rfl
      simp [hci64, hcu64] at g0 g1
      obtain ⟨x0, e0, _, w0⟩ := DataW.trod_int Try.underlying3 g0
      have f0 := i64_of x0 w0
      obtain ⟨x1, e1, _, w1⟩ := DataW.trod_int Try.underlying22 g1
      obtain ⟨x1, rfl, f1⟩ := u64_nat x1 w1
      simp at e0 e1
      subst e0 e1
      exact ⟨⟨x0, x1⟩, rfl, f0, f1⟩
theorem open_Rx {v : Value} {d : DataW H} {p : List MemPlace} (hv : ∃ cs, v = .agg cs) (hw : ∀ n ∈ d.weights Try.prog 39, n ≤ reachBytes) (h : DataW.Trod enc Try.prog W base spare held 39 v d p) : ∃ x : Rx, v = .agg x.arr ∧ x.fit := by
  obtain ⟨cs, rfl⟩ := hv
  obtain ⟨fuel, hf⟩ := h
  obtain ⟨e, he, hfit⟩ := cellsRx hf hw
  refine ⟨e, ?_, hfit⟩
  simp [Value.cells] at he
  show Value.agg cs = _
  congr 1
  exact Array.ext' (by rw [he]; rfl)
end

section
variable {H : Type} {enc : TypeId × Value → H} {W : World} {base : Nat} {spare : Nat → Bool} {held : Bool}
theorem open_Rxs {v : Value} {d : DataW H} {p : List MemPlace} (hv : ∃ a n c, v = .slice a n c) (hw : ∀ n ∈ d.weights Try.prog 37, n ≤ reachBytes) (h : DataW.Trod enc Try.prog W base spare held 37 v d p) :
    ∃ (a : Option Addr) (L : List Rx) (c : Nat), v = .slice a L.length c ∧ L.length * 16 ≤ 140737488351232 ∧ L.length ≤ c ∧ c ≤ maxLen ∧ (∀ x ∈ L, x.fit) ∧ Li Rx.vals 0 a L W :=
  open_liw Rx.zero Rx.vals_length (by decide) Try.underlying37 (by kernel_rfl) (by kernel_rfl) cellsRx hv hw h
end

section
variable {H : Type} {enc : TypeId × Value → H} {W : World} {base : Nat} {spare : Nat → Bool} {held : Bool}
theorem open_ro {v : Value} {d : DataW H} {p : List MemPlace} (hv : ∃ cs, v = .agg cs) (hw : ∀ n ∈ d.weights Try.prog 25, n ≤ reachBytes) (h : DataW.Trod enc Try.prog W base spare held 25 v d p) :
    ∃ (x0 : Nat) (a1 : Option Addr) (L1 : List Se) (c1 : Nat), v = .agg #[.int .u64 (x0 : Int), .slice a1 L1.length c1] ∧ x0 < 18446744073709551616 ∧ (L1.length * 16 ≤ 140737488351232 ∧ L1.length ≤ c1 ∧ c1 ≤ maxLen ∧ (∀ x ∈ L1, x.fit) ∧ Li Se.vals 0 a1 L1 W) := by
  obtain ⟨cs, rfl⟩ := hv
  have hC : Try.prog.cellsOf 25 = 2 := by kernel_rfl
  have hc0 : Try.prog.cellsOf 22 = 1 := by kernel_rfl
  have hc1 : Try.prog.cellsOf 23 = 1 := by kernel_rfl
  have hu : Try.prog.underlying 25 = some (.struct (Try.prog.fieldsOf 25)) := by kernel_rfl
  have hf3 : (Try.prog.fieldsOf 25).toList.map (·.type) = [22, 23] := by kernel_rfl
  obtain ⟨fuel, hf⟩ := h
  obtain ⟨xs, m, _, hd, hlen, hl, hg⟩ := DataW.trod_struct Try.underlying25 hf
  rw [hC] at hlen
  generalize hcs : (Value.agg cs).cells.toList = l at hlen hg
  match l, hlen with
  | [c0, c1], _ =>
    match xs, hl with
    | [y0, y1], _ =>
      have g0 := hg 0 _ rfl
      have g1 := hg 1 _ rfl
      simp [hc0, hc1] at g0 g1
      obtain ⟨x0, e0, _, w0⟩ := DataW.trod_int Try.underlying22 g0
      obtain ⟨x0, rfl, f0⟩ := u64_nat x0 w0
      have hw1 : ∀ n ∈ y1.1.weights Try.prog 23, n ≤ reachBytes := fun n hn => hw n (by
        have hd' : d = .agg ([y0, y1].map (·.1)) := by injection hd
        rw [hd']
        simp only [DataW.weights, hu, hf3]
        exact DataW.weights_mem_each (j := 1) rfl rfl _ hn)
      obtain ⟨a1, L1, c1', e1, f1⟩ : ∃ (a : Option Addr) (L : List Se) (c : Nat), [c1] = [.slice a L.length c] ∧ (L.length * 16 ≤ 140737488351232 ∧ L.length ≤ c ∧ c ≤ maxLen ∧ (∀ x ∈ L, x.fit) ∧ Li Se.vals 0 a L W) := by
        rcases Go.Deep.open_slice Try.underlying23 g1 with ⟨hc, _⟩ | ⟨a, len, cap, mm, nn, D, Pl, hc, hba, hlc, hcm, hm, hx, hcell⟩
        · exact ⟨none, [], 0, hc, by simp, Nat.le_refl _, Nat.zero_le _, fun _ h => (by cases h), .inl rfl⟩
        · have ht : DataW.Trod enc Try.prog W base spare held 23 (.slice (some a) len cap) y1.1 y1.2 := ⟨m, by
            have e9 : (Value.slice (some a) len cap).cells.toList = [.slice (some a) len cap] := by simp [Value.cells]
            rw [e9, ← hc]
            exact g1⟩
          obtain ⟨a', L, k', e', h4, h5, h6, h7, hS⟩ := open_Ses ⟨_, _, _, rfl⟩ hw1 ht
          injection e' with e3 e4 e5
          subst e3 e4 e5
          exact ⟨some a, L, cap, hc, h4, h5, h6, h7, hS⟩
      simp at e0 e1
      subst e0 e1
      refine ⟨x0, a1, L1, c1', ?_, f0, f1⟩
      simp [Value.cells] at hcs
      show Value.agg cs = _
      congr 1
      exact Array.ext' (by rw [hcs])
end

end Go.Proofs.Ythhloomoiihfnaa
