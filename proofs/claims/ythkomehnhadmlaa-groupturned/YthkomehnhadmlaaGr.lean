/-
  Members of groups as plain data: their cells; two compared; lists of them built, and as arguments.
  No condition.
-/
import Derived.Test.YthkomehnhadmlaaLw
namespace Go.Proofs.Ythkomehnhadmlaa
set_option maxRecDepth 10000
open Go.ChangeShapes Go.WideShapes Go.ChangeAt Go.RowKit Go.WideElems Go.Sort
set_option linter.unusedVariables false
set_option linter.unusedSimpArgs false

structure Mr where
  g : Int
  d : Int
  s : Nat

def Mr.vals (e : Mr) : List Value := [.int .i64 e.g, .int .i64 e.d, .int .u64 (e.s : Int)]
def Mr.zero : Mr := ⟨0, 0, 0⟩
def Mr.arr (e : Mr) : Array Value := e.vals.toArray
theorem Mr.vals_length (e : Mr) : e.vals.length = 3 := rfl
theorem Mr.arr_size (e : Mr) : e.arr.size = 3 := rfl
theorem Mr.vals_one (e : Mr) : ∀ v ∈ e.vals, v.oneCell' = true := by
  intro v hv
  simp [Mr.vals] at hv
  rcases hv with rfl | rfl | rfl <;> rfl
theorem Mr.arr_one (e : Mr) : e.arr.all (·.oneCell') = true := all_oneCell_toArray e.vals_one
def Mr.fit (e : Mr) : Prop := (-9223372036854775808 ≤ e.g ∧ e.g ≤ 9223372036854775807) ∧ (-9223372036854775808 ≤ e.d ∧ e.d ≤ 9223372036854775807) ∧ e.s < 18446744073709551616

theorem sizeMr : (Try.prog.info? 35).map (·.size) = some 3 := by kernel_rfl
theorem zeroMr : (Try.prog.info? 35).map (fun i => (i.zero, i.size)) = some (some (.agg Mr.zero.arr), 3) := by kernel_rfl
theorem builtMr : Try.prog.built 35 [] = some Mr.zero.arr := by kernel_rfl
theorem infoMr : ∃ i z, Try.prog.info? 35 = some i ∧ i.zero = some z ∧ i.size = 3 ∧ i.bytes = 24 ∧ z.cells.size = 3 := by
  have h : (Try.prog.info? 35).map (fun i => (i.zero, i.size, i.bytes)) = some (some (.agg Mr.zero.arr), 3, 24) := by kernel_rfl
  obtain ⟨i, hi, h0, h1, h2⟩ := info_parts h
  exact ⟨i, _, hi, h0, h1, h2, rfl⟩

theorem bsMr (e : Mr) (w : World) : (Instr.buildSlice 22 1 #[(0, .agg e.arr)]).run Try.prog w = .ok (.slice (some ⟨w.heap.size, 0, none⟩) 1 1) (w.alloc (.cells e.arr 35)) := by kernel_rfl
theorem bsMr0 (w : World) : (Instr.buildSlice 22 0 #[]).run Try.prog w = .ok (.slice (some ⟨w.heap.size, 0, none⟩) 0 0) (w.alloc (.cells #[] 35)) := by kernel_rfl
/- A slice of one, as what is appended; an empty one. -/
theorem box_Mr {ops : Array Oper} {rest : List Oper} {op : Oper} {a : Act} {w : World} {Q : Exit → Act → World → Prop} (hgd : op.guard = none) (x : Operand) (ho : op.op = .buildSlice 22 1 #[(0, x)]) (e : Mr) (hx : a.eval x = .agg e.arr)
    (h : ∀ W, Li Mr.vals w.heap.size (some ⟨w.heap.size, 0, none⟩) [e] W → Below w.heap.size w W → wpList Try.prog ops Q rest (a.put op.dst (.slice (some ⟨w.heap.size, 0, none⟩) 1 1)) W) : wpList Try.prog ops Q (op :: rest) a w :=
  wpList_plain hgd fun _ hK => by
    have hk := hK _ _ (h _ (li_box (f := Mr.vals) w e 35 _ (Nat.le_refl _)) (below_box w _))
    unfold Oper.wp execOp
    simp only [ho, List.map_toArray, List.map_cons, List.map_nil, hx, Sem.run_bind, Sem.run_pure, bsMr, Result.andThen_ok]
    exact hk
theorem box_Mr0 {ops : Array Oper} {rest : List Oper} {op : Oper} {a : Act} {w : World} {Q : Exit → Act → World → Prop} (hgd : op.guard = none) (ho : op.op = .buildSlice 22 0 #[])
    (h : wpList Try.prog ops Q rest (a.put op.dst (.slice (some ⟨w.heap.size, 0, none⟩) 0 0)) (w.alloc (.cells #[] 35))) : wpList Try.prog ops Q (op :: rest) a w :=
  wpList_plain hgd fun _ hK => by
    have hk := hK _ _ h
    unfold Oper.wp execOp
    simp only [ho, List.map_toArray, List.map_nil, Sem.run_bind, Sem.run_pure, bsMr0, Result.andThen_ok]
    exact hk

theorem wp_Mr0 {op : Oper} {a : Act} {w : World} {K : Act → World → Prop} {Q : Exit → Act → World → Prop} (ho : op.op = .buildSlice 22 0 #[])
    (h : ∀ g W, Lg Mr.vals 3 35 g (some ⟨g, 0, none⟩) 0 [] W → Below w.heap.size w W → w.heap.size ≤ g → g < W.heap.size → K (a.put op.dst (.slice (some ⟨g, 0, none⟩) 0 0)) W) : op.wp Try.prog a w K Q := by
  have hk := h _ _ (Lg.of (Ow.empty (blk_new w #[] 35)) (Nat.le_refl _)) (below_box w _) (Nat.le_refl _) (by simp)
  unfold Oper.wp execOp
  simp only [ho, List.map_toArray, List.map_nil, Sem.run_bind, Sem.run_pure, bsMr0, Result.andThen_ok]
  exact hk
theorem wp_Mr {op : Oper} {a : Act} {w : World} {K : Act → World → Prop} {Q : Exit → Act → World → Prop} (x : Operand) (ho : op.op = .buildSlice 22 1 #[(0, x)]) (e : Mr) (hx : a.eval x = .agg e.arr)
    (h : ∀ g W, Li Mr.vals 0 (some ⟨g, 0, none⟩) [e] W → Below w.heap.size w W → K (a.put op.dst (.slice (some ⟨g, 0, none⟩) 1 1)) W) : op.wp Try.prog a w K Q := by
  have hk := h _ _ (li_box (f := Mr.vals) w e 35 0 (Nat.zero_le _)) (below_box w _)
  unfold Oper.wp execOp
  simp only [ho, List.map_toArray, List.map_cons, List.map_nil, hx, Sem.run_bind, Sem.run_pure, bsMr, Result.andThen_ok]
  exact hk

def Mr.same (a b : Mr) : Bool := decide (a.g = b.g ∧ a.d = b.d ∧ a.s = b.s)
theorem Mr.same_iff (a b : Mr) : Mr.same a b = true ↔ a = b := by
  unfold Mr.same
  rw [decide_eq_true_eq]
  constructor
  · rintro ⟨h0, h1, h2⟩
    cases a; cases b
    simp_all
  · rintro rfl
    exact ⟨rfl, rfl, rfl⟩
theorem Mr.same_self (a : Mr) : Mr.same a a = true := (Mr.same_iff a a).2 rfl
theorem Mr.same_no {a b : Mr} (h : a ≠ b) : Mr.same a b = false := by
  cases e : Mr.same a b
  · rfl
  · exact absurd ((Mr.same_iff a b).1 e) h

theorem equalMr (a b : Mr) (w : World) : (Op.equal 35 (.agg a.arr) (.agg b.arr)).run Try.prog w = .ok (Mr.same a b) w := by
  obtain ⟨g, d, s⟩ := a
  obtain ⟨g_, d_, s_⟩ := b
  by_cases h0 : g = g_
  · by_cases h1 : d = d_
    · by_cases h2 : s = s_
      · simp [go_sem, Op.equal, Op.maxDepth, Mr.arr, Mr.vals, Mr.same, *]
      · have h9 : ¬ (s : Int) = (s_ : Int) := by omega
        simp [go_sem, Op.equal, Op.maxDepth, Mr.arr, Mr.vals, Mr.same, *]
    · simp [go_sem, Op.equal, Op.maxDepth, Mr.arr, Mr.vals, Mr.same, *]
  · simp [go_sem, Op.equal, Op.maxDepth, Mr.arr, Mr.vals, Mr.same, *]
theorem eqlMr (a b : Mr) (c : Bool) (h : Mr.same a b = c) (w : World) : (binOp .eql 35 (.agg a.arr) (.agg b.arr)).run Try.prog w = .ok (.bool c) w := by
  simp only [binOp]
  simp [equalMr, h]
theorem neqMr (a b : Mr) (c : Bool) (h : Mr.same a b = c) (w : World) : (binOp .neq 35 (.agg a.arr) (.agg b.arr)).run Try.prog w = .ok (.bool (!c)) w := by
  simp only [binOp]
  simp [equalMr, h]

section
variable {H : Type} {enc : TypeId × Value → H} {W : World} {base : Nat} {spare : Nat → Bool} {held : Bool}
theorem cellsMr {cs : List Value} {fuel : Nat} {x : DataW H × List MemPlace} (h : DataW.trod enc Try.prog W base spare held fuel 35 cs = some x) (hw : ∀ n ∈ x.1.weights Try.prog 35, n ≤ reachBytes) : ∃ e : Mr, cs = e.vals ∧ e.fit := by
  have hC : Try.prog.cellsOf 35 = 3 := by kernel_rfl
  have hci64 : Try.prog.cellsOf 3 = 1 := by kernel_rfl
  have hcu64 : Try.prog.cellsOf 23 = 1 := by kernel_rfl
  obtain ⟨xs, m, _, hx, hlen, hl, hg⟩ := DataW.trod_struct Try.underlying35 h
  rw [hC] at hlen
  match cs, hlen with
  | [c0, c1, c2], _ =>
    match xs, hl with
    | [y0, y1, y2], _ =>
      have g0 := hg 0 _ rfl
      have g1 := hg 1 _ rfl
      have g2 := hg 2 _ rfl
      simp [hci64, hcu64] at g0 g1 g2
      obtain ⟨x0, e0, _, w0⟩ := DataW.trod_int Try.underlying3 g0
      have f0 := i64_of x0 w0
      obtain ⟨x1, e1, _, w1⟩ := DataW.trod_int Try.underlying3 g1
      have f1 := i64_of x1 w1
      obtain ⟨x2, e2, _, w2⟩ := DataW.trod_int Try.underlying23 g2
      obtain ⟨x2, rfl, f2⟩ := u64_nat x2 w2
      simp at e0 e1 e2
      subst e0 e1 e2
      exact ⟨⟨x0, x1, x2⟩, rfl, f0, f1, f2⟩
theorem open_Mr {v : Value} {d : DataW H} {p : List MemPlace} (hv : ∃ cs, v = .agg cs) (hw : ∀ n ∈ d.weights Try.prog 35, n ≤ reachBytes) (h : DataW.Trod enc Try.prog W base spare held 35 v d p) : ∃ x : Mr, v = .agg x.arr ∧ x.fit := by
  obtain ⟨cs, rfl⟩ := hv
  obtain ⟨fuel, hf⟩ := h
  obtain ⟨e, he, hfit⟩ := cellsMr hf hw
  refine ⟨e, ?_, hfit⟩
  simp [Value.cells] at he
  show Value.agg cs = _
  congr 1
  exact Array.ext' (by rw [he]; rfl)
end

section
variable {H : Type} {enc : TypeId × Value → H} {W : World} {base : Nat} {spare : Nat → Bool} {held : Bool}
theorem open_Mrs {v : Value} {d : DataW H} {p : List MemPlace} (hv : ∃ a n c, v = .slice a n c) (hw : ∀ n ∈ d.weights Try.prog 22, n ≤ reachBytes) (h : DataW.Trod enc Try.prog W base spare held 22 v d p) :
    ∃ (a : Option Addr) (L : List Mr) (c : Nat), v = .slice a L.length c ∧ L.length * 24 ≤ 140737488351232 ∧ L.length ≤ c ∧ c ≤ maxLen ∧ (∀ x ∈ L, x.fit) ∧ Li Mr.vals 0 a L W :=
  open_liw Mr.zero Mr.vals_length (by decide) Try.underlying22 (by kernel_rfl) (by kernel_rfl) cellsMr hv hw h
end

end Go.Proofs.Ythkomehnhadmlaa
