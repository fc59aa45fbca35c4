/-
  A list of Ids gone over: whether the highest one was found, the list turned round; an Id laid in a slice of its own.
  No condition.
-/
import Derived.Test.YtbgfhmnlnjlnhaaImM
namespace Go.Proofs.Ytbgfhmnlnjlnhaa
set_option maxRecDepth 10000
open Go.RowKit Go.Sort

theorem infoIdn : ∃ i z, Try.prog.info? 24 = some i ∧ i.zero = some z ∧ i.size = 3 ∧ i.bytes = 12 ∧ z.cells.size = 3 := by
  have h : (Try.prog.info? 24).map (fun i => (i.zero, i.size, i.bytes)) = some (some (.agg Idn.zero.arr), 3, 12) := by kernel_rfl
  obtain ⟨i, hi, h0, h1, h2⟩ := info_parts h
  exact ⟨i, _, hi, h0, h1, h2, rfl⟩
theorem bsIdn (e : Idn) (w : World) : (Instr.buildSlice 41 1 #[(0, .agg e.arr)]).run Try.prog w = .ok (.slice (some ⟨w.heap.size, 0, none⟩) 1 1) (w.alloc (.cells e.arr 24)) := by kernel_rfl
theorem box_id {ops : Array Oper} {rest : List Oper} {op : Oper} {a : Act} {w : World} {Q : Exit → Act → World → Prop} (hgd : op.guard = none) (x : Operand) (ho : op.op = .buildSlice 41 1 #[(0, x)]) (e : Idn) (hx : a.eval x = .agg e.arr)
    (h : wpList Try.prog ops Q rest (a.put op.dst (.slice (some ⟨w.heap.size, 0, none⟩) 1 1)) (w.alloc (.cells e.arr 24))) : wpList Try.prog ops Q (op :: rest) a w :=
  wpList_plain hgd fun _ hK => by
    have hk := hK _ _ h
    unfold Oper.wp execOp
    simp only [ho, List.map_toArray, List.map_cons, List.map_nil, hx, Sem.run_bind, Sem.run_pure, bsIdn, Result.andThen_ok]
    exact hk

def fnd (L : List Idn) (h : Idn) (j : Nat) : Bool := Idn.same h Idn.zero || (L.take j).any (fun x => Idn.same x h)
theorem fnd_zero (L : List Idn) (h : Idn) : fnd L h 0 = Idn.same h Idn.zero := by simp [fnd]
theorem fnd_step (L : List Idn) (h : Idn) (j : Nat) (x : Idn) (hx : L[j]? = some x) : fnd L h (j + 1) = (fnd L h j || Idn.same x h) := by
  unfold fnd
  rw [List.take_add_one, hx]
  simp [List.any_append, Bool.or_assoc]
theorem fnd_all (L : List Idn) : fnd L (hi L) L.length = true := by
  unfold fnd
  rw [List.take_length]
  rcases hi_mem L with e | e
  · have h : Idn.same (hi L) Idn.zero = true := (Idn.same_iff _ _).2 e
    rw [h]; rfl
  · rw [Bool.or_eq_true]
    right
    rw [List.any_eq_true]
    exact ⟨_, e, Idn.same_self _⟩
theorem back_step (L : List Idn) (j : Nat) (x : Idn) (hj : j < L.length) (hx : L[L.length - 1 - j]? = some x) : L.reverse.take (j + 1) = L.reverse.take j ++ [x] := by
  rw [List.take_add_one, List.getElem?_reverse hj, hx]
  rfl

end Go.Proofs.Ytbgfhmnlnjlnhaa
