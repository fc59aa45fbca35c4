/-
  Lists of bools that a call makes by append.
  No condition.
-/
import Derived.Test.YtchkpgncelbhpaaLg
namespace Go.Proofs.Ytchkpgncelbhpaa
set_option maxRecDepth 10000
open Go.RowKit Go.Sort

def bvl (x : Bool) : List Value := [.bool x]
theorem bvl_length (x : Bool) : (bvl x).length = 1 := rfl
theorem bvl_one (x : Bool) : ∀ v ∈ bvl x, v.oneCell' = true := by
  intro v hv
  simp [bvl] at hv
  subst hv
  rfl
theorem infoBool : ∃ i z, Try.prog.info? 4 = some i ∧ i.zero = some z ∧ i.size = 1 ∧ i.bytes = 1 ∧ z.cells.size = 1 := by
  have h : (Try.prog.info? 4).map (fun i => (i.zero, i.size, i.bytes)) = some (some (.bool false), 1, 1) := by kernel_rfl
  obtain ⟨i, hi, h0, h1, h2⟩ := info_parts h
  exact ⟨i, _, hi, h0, h1, h2, rfl⟩
theorem bsBool (x : Bool) (w : World) : (Instr.buildSlice 37 1 #[(0, .bool x)]).run Try.prog w = .ok (.slice (some ⟨w.heap.size, 0, none⟩) 1 1) (w.alloc (.cells (bvl x).toArray 4)) := by kernel_rfl
theorem box_bool {ops : Array Oper} {rest : List Oper} {op : Oper} {a : Act} {w : World} {Q : Exit → Act → World → Prop} (hgd : op.guard = none) (x : Operand) (ho : op.op = .buildSlice 37 1 #[(0, x)]) (n : Bool) (hx : a.eval x = .bool n)
    (h : wpList Try.prog ops Q rest (a.put op.dst (.slice (some ⟨w.heap.size, 0, none⟩) 1 1)) (w.alloc (.cells (bvl n).toArray 4))) : wpList Try.prog ops Q (op :: rest) a w :=
  wpList_plain hgd fun _ hK => by
    have hk := hK _ _ h
    unfold Oper.wp execOp
    simp only [ho, List.map_toArray, List.map_cons, List.map_nil, hx, Sem.run_bind, Sem.run_pure, bsBool, Result.andThen_ok]
    exact hk

end Go.Proofs.Ytchkpgncelbhpaa
