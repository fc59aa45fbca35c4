/-
  Records as plain data: their cells; two compared; lists of them built, and as arguments.
  No condition.
-/
import Derived.Test.YtehmcncclpimjaaDoorLw
namespace Go.Proofs.YtehmcncclpimjaaDoor
set_option maxRecDepth 10000
open Go.ChangeShapes Go.WideShapes Go.ChangeAt Go.RowKit Go.WideElems Go.Sort
set_option linter.unusedVariables false
set_option linter.unusedSimpArgs false

structure Rc where
  n : Nat
  t : Nat
  c : ByteArray
  k : Int

def Rc.vals (e : Rc) : List Value := [.int .u64 (e.n : Int), .int .u32 (e.t : Int), .string e.c, .int .i64 e.k]
def Rc.zero : Rc := ⟨0, 0, ⟨#[]⟩, 0⟩
def Rc.arr (e : Rc) : Array Value := e.vals.toArray
theorem Rc.vals_length (e : Rc) : e.vals.length = 4 := rfl
theorem Rc.arr_size (e : Rc) : e.arr.size = 4 := rfl
theorem Rc.vals_one (e : Rc) : ∀ v ∈ e.vals, v.oneCell' = true := by
  intro v hv
  simp [Rc.vals] at hv
  rcases hv with rfl | rfl | rfl | rfl <;> rfl
theorem Rc.arr_one (e : Rc) : e.arr.all (·.oneCell') = true := all_oneCell_toArray e.vals_one
def Rc.fit (e : Rc) : Prop := e.n < 18446744073709551616 ∧ e.t < 4294967296 ∧ e.c.size ≤ 140737488351232 ∧ (-9223372036854775808 ≤ e.k ∧ e.k ≤ 9223372036854775807)

theorem sizeRc : (Tryd.prog.info? 27).map (·.size) = some 4 := by kernel_rfl
theorem zeroRc : (Tryd.prog.info? 27).map (fun i => (i.zero, i.size)) = some (some (.agg Rc.zero.arr), 4) := by kernel_rfl
theorem builtRc : Tryd.prog.built 27 [] = some Rc.zero.arr := by kernel_rfl
theorem infoRc : ∃ i z, Tryd.prog.info? 27 = some i ∧ i.zero = some z ∧ i.size = 4 ∧ i.bytes = 40 ∧ z.cells.size = 4 := by
  have h : (Tryd.prog.info? 27).map (fun i => (i.zero, i.size, i.bytes)) = some (some (.agg Rc.zero.arr), 4, 40) := by kernel_rfl
  obtain ⟨i, hi, h0, h1, h2⟩ := info_parts h
  exact ⟨i, _, hi, h0, h1, h2, rfl⟩

theorem bsRc (e : Rc) (w : World) : (Instr.buildSlice 22 1 #[(0, .agg e.arr)]).run Tryd.prog w = .ok (.slice (some ⟨w.heap.size, 0, none⟩) 1 1) (w.alloc (.cells e.arr 27)) := by kernel_rfl
theorem bsRc0 (w : World) : (Instr.buildSlice 22 0 #[]).run Tryd.prog w = .ok (.slice (some ⟨w.heap.size, 0, none⟩) 0 0) (w.alloc (.cells #[] 27)) := by kernel_rfl
/- A slice of one, as what is appended; an empty one. -/
theorem box_Rc {ops : Array Oper} {rest : List Oper} {op : Oper} {a : Act} {w : World} {Q : Exit → Act → World → Prop} (hgd : op.guard = none) (x : Operand) (ho : op.op = .buildSlice 22 1 #[(0, x)]) (e : Rc) (hx : a.eval x = .agg e.arr)
    (h : ∀ W, Li Rc.vals w.heap.size (some ⟨w.heap.size, 0, none⟩) [e] W → Below w.heap.size w W → wpList Tryd.prog ops Q rest (a.put op.dst (.slice (some ⟨w.heap.size, 0, none⟩) 1 1)) W) : wpList Tryd.prog ops Q (op :: rest) a w :=
  wpList_plain hgd fun _ hK => by
    have hk := hK _ _ (h _ (li_box (f := Rc.vals) w e 27 _ (Nat.le_refl _)) (below_box w _))
    unfold Oper.wp execOp
    simp only [ho, List.map_toArray, List.map_cons, List.map_nil, hx, Sem.run_bind, Sem.run_pure, bsRc, Result.andThen_ok]
    exact hk
theorem box_Rc0 {ops : Array Oper} {rest : List Oper} {op : Oper} {a : Act} {w : World} {Q : Exit → Act → World → Prop} (hgd : op.guard = none) (ho : op.op = .buildSlice 22 0 #[])
    (h : wpList Tryd.prog ops Q rest (a.put op.dst (.slice (some ⟨w.heap.size, 0, none⟩) 0 0)) (w.alloc (.cells #[] 27))) : wpList Tryd.prog ops Q (op :: rest) a w :=
  wpList_plain hgd fun _ hK => by
    have hk := hK _ _ h
    unfold Oper.wp execOp
    simp only [ho, List.map_toArray, List.map_nil, Sem.run_bind, Sem.run_pure, bsRc0, Result.andThen_ok]
    exact hk

theorem wp_Rc0 {op : Oper} {a : Act} {w : World} {K : Act → World → Prop} {Q : Exit → Act → World → Prop} (ho : op.op = .buildSlice 22 0 #[])
    (h : ∀ g W, Lg Rc.vals 4 27 g (some ⟨g, 0, none⟩) 0 [] W → Below w.heap.size w W → w.heap.size ≤ g → g < W.heap.size → K (a.put op.dst (.slice (some ⟨g, 0, none⟩) 0 0)) W) : op.wp Tryd.prog a w K Q := by
  have hk := h _ _ (Lg.of (Ow.empty (blk_new w #[] 27)) (Nat.le_refl _)) (below_box w _) (Nat.le_refl _) (by simp)
  unfold Oper.wp execOp
  simp only [ho, List.map_toArray, List.map_nil, Sem.run_bind, Sem.run_pure, bsRc0, Result.andThen_ok]
  exact hk
theorem wp_Rc {op : Oper} {a : Act} {w : World} {K : Act → World → Prop} {Q : Exit → Act → World → Prop} (x : Operand) (ho : op.op = .buildSlice 22 1 #[(0, x)]) (e : Rc) (hx : a.eval x = .agg e.arr)
    (h : ∀ g W, Li Rc.vals 0 (some ⟨g, 0, none⟩) [e] W → Below w.heap.size w W → K (a.put op.dst (.slice (some ⟨g, 0, none⟩) 1 1)) W) : op.wp Tryd.prog a w K Q := by
  have hk := h _ _ (li_box (f := Rc.vals) w e 27 0 (Nat.zero_le _)) (below_box w _)
  unfold Oper.wp execOp
  simp only [ho, List.map_toArray, List.map_cons, List.map_nil, hx, Sem.run_bind, Sem.run_pure, bsRc, Result.andThen_ok]
  exact hk

def Rc.same (a b : Rc) : Bool := decide (a.n = b.n ∧ a.t = b.t ∧ a.c = b.c ∧ a.k = b.k)
theorem Rc.same_iff (a b : Rc) : Rc.same a b = true ↔ a = b := by
  unfold Rc.same
  rw [decide_eq_true_eq]
  constructor
  · rintro ⟨h0, h1, h2, h3⟩
    cases a; cases b
    simp_all
  · rintro rfl
    exact ⟨rfl, rfl, rfl, rfl⟩
theorem Rc.same_self (a : Rc) : Rc.same a a = true := (Rc.same_iff a a).2 rfl
theorem Rc.same_no {a b : Rc} (h : a ≠ b) : Rc.same a b = false := by
  cases e : Rc.same a b
  · rfl
  · exact absurd ((Rc.same_iff a b).1 e) h

theorem equalRc (a b : Rc) (w : World) : (Op.equal 27 (.agg a.arr) (.agg b.arr)).run Tryd.prog w = .ok (Rc.same a b) w := by
  obtain ⟨n, t, c, k⟩ := a
  obtain ⟨n_, t_, c_, k_⟩ := b
  by_cases h0 : n = n_
  · by_cases h1 : t = t_
    · by_cases h2 : c = c_
      · by_cases h3 : k = k_
        · simp [go_sem, Op.equal, Op.maxDepth, Rc.arr, Rc.vals, Rc.same, *]
        · simp [go_sem, Op.equal, Op.maxDepth, Rc.arr, Rc.vals, Rc.same, *]
      · have h9 := leNe h2
        simp [go_sem, Op.equal, Op.maxDepth, Rc.arr, Rc.vals, Rc.same, *]
    · have h9 : ¬ (t : Int) = (t_ : Int) := by omega
      simp [go_sem, Op.equal, Op.maxDepth, Rc.arr, Rc.vals, Rc.same, *]
  · have h9 : ¬ (n : Int) = (n_ : Int) := by omega
    simp [go_sem, Op.equal, Op.maxDepth, Rc.arr, Rc.vals, Rc.same, *]
theorem eqlRc (a b : Rc) (c : Bool) (h : Rc.same a b = c) (w : World) : (binOp .eql 27 (.agg a.arr) (.agg b.arr)).run Tryd.prog w = .ok (.bool c) w := by
  simp only [binOp]
  simp [equalRc, h]
theorem neqRc (a b : Rc) (c : Bool) (h : Rc.same a b = c) (w : World) : (binOp .neq 27 (.agg a.arr) (.agg b.arr)).run Tryd.prog w = .ok (.bool (!c)) w := by
  simp only [binOp]
  simp [equalRc, h]

section
variable {H : Type} {enc : TypeId × Value → H} {W : World} {base : Nat} {spare : Nat → Bool} {held : Bool}
theorem cellsRc {cs : List Value} {fuel : Nat} {x : DataW H × List MemPlace} (h : DataW.trod enc Tryd.prog W base spare held fuel 27 cs = some x) (hw : ∀ n ∈ x.1.weights Tryd.prog 27, n ≤ reachBytes) : ∃ e : Rc, cs = e.vals ∧ e.fit := by
  have hC : Tryd.prog.cellsOf 27 = 4 := by kernel_rfl
  have hcu64 : Tryd.prog.cellsOf 23 = 1 := by kernel_rfl
  have hcu32 : Tryd.prog.cellsOf 24 = 1 := by kernel_rfl
  have hcstring : Tryd.prog.cellsOf 9 = 1 := by kernel_rfl
  have hcerrno : Tryd.prog.cellsOf 25 = 1 := by kernel_rfl
  have hu : Tryd.prog.underlying 27 = some (.struct (Tryd.prog.fieldsOf 27)) := by kernel_rfl
  have hf : (Tryd.prog.fieldsOf 27).toList.map (·.type) = [23, 24, 9, 25] := by kernel_rfl
  obtain ⟨xs, m, _, hx, hlen, hl, hg⟩ := DataW.trod_struct Tryd.underlying27 h
  rw [hC] at hlen
  match cs, hlen with
  | [c0, c1, c2, c3], _ =>
    match xs, hl with
    | [y0, y1, y2, y3], _ =>
      have g0 := hg 0 _ rfl
      have g1 := hg 1 _ rfl
      have g2 := hg 2 _ rfl
      have g3 := hg 3 _ rfl
      simp [hcu64, hcu32, hcstring, hcerrno] at g0 g1 g2 g3
      obtain ⟨x0, e0, _, w0⟩ := DataW.trod_int Tryd.underlying23 g0
      obtain ⟨x0, rfl, f0⟩ := u64_nat x0 w0
      obtain ⟨x1, e1, _, w1⟩ := DataW.trod_int Tryd.underlying24 g1
      obtain ⟨x1, rfl, f1⟩ := u32_nat x1 w1
      obtain ⟨x2, e2, z2, _⟩ := DataW.trod_string Tryd.underlying9 g2
      have f2 : x2.size ≤ 140737488351232 := by
        have := hw x2.data.toList.length (by
          rw [hx]
          simp only [DataW.weights, hu, hf]
          exact DataW.weights_mem_each (j := 2) rfl rfl _ (by simp [z2, DataW.weights]))
        rw [Array.length_toList] at this
        exact this
      obtain ⟨x3, e3, _, w3⟩ := DataW.trod_int Tryd.underlying25 g3
      have f3 := i64_of x3 w3
      simp at e0 e1 e2 e3
      subst e0 e1 e2 e3
      exact ⟨⟨x0, x1, x2, x3⟩, rfl, f0, f1, f2, f3⟩
theorem open_Rc {v : Value} {d : DataW H} {p : List MemPlace} (hv : ∃ cs, v = .agg cs) (hw : ∀ n ∈ d.weights Tryd.prog 27, n ≤ reachBytes) (h : DataW.Trod enc Tryd.prog W base spare held 27 v d p) : ∃ x : Rc, v = .agg x.arr ∧ x.fit := by
  obtain ⟨cs, rfl⟩ := hv
  obtain ⟨fuel, hf⟩ := h
  obtain ⟨e, he, hfit⟩ := cellsRc hf hw
  refine ⟨e, ?_, hfit⟩
  simp [Value.cells] at he
  show Value.agg cs = _
  congr 1
  exact Array.ext' (by rw [he]; rfl)
end

section
variable {H : Type} {enc : TypeId × Value → H} {W : World} {base : Nat} {spare : Nat → Bool} {held : Bool}
theorem open_Rcs {v : Value} {d : DataW H} {p : List MemPlace} (hv : ∃ a n c, v = .slice a n c) (hw : ∀ n ∈ d.weights Tryd.prog 22, n ≤ reachBytes) (h : DataW.Trod enc Tryd.prog W base spare held 22 v d p) :
    ∃ (a : Option Addr) (L : List Rc) (c : Nat), v = .slice a L.length c ∧ L.length * 40 ≤ 140737488351232 ∧ L.length ≤ c ∧ c ≤ maxLen ∧ (∀ x ∈ L, x.fit) ∧ Li Rc.vals 0 a L W :=
  open_liw Rc.zero Rc.vals_length (by decide) Tryd.underlying22 (by kernel_rfl) (by kernel_rfl) cellsRc hv hw h
end

end Go.Proofs.YtehmcncclpimjaaDoor
