/-
  A frame is the same as itself, and a lane as itself: what their comparison answers; and a frame loaded where the order is drawn.
  No condition.
-/
import Derived.Test.YtmbddjejbmjmfaaFrWk
import Derived.Test.YtmbddjejbmjmfaaEntAll
import Derived.Lib.QuietBelow
import Derived.BigQuiet
import Derived.DeepKeys
namespace Go.Proofs.Ytmbddjejbmjmfaa
set_option maxRecDepth 10000
open Go.RowKit Go.Sort

theorem quiet_load {o : Oper} {a : Act} {C : World → Prop} {K : Act → Prop} {x : Operand} {B : Nat} {F : Nat → En} {T : TypeId} (ho : o.op = .load 33 x) (hx : a.eval x = .pointer (some ⟨B, 0, none⟩)) (hC : ∀ w, C w → Blk B (frc F) T w)
    (h : K (a.put o.dst (.agg (frc F)))) : o.quiet Try.prog a C K := by
  refine ⟨_, fun w hw => ?_, h⟩
  unfold Oper.quietAt execOp
  simp only [ho, hx, Instr.loadAt, Instr.sureAddr, Sem.run_bind, Sem.run_pure, Result.andThen_ok, run_loadVar_row w B T 33 (frc F) (0, 0) _ (hC w hw) Try.underlying33 rfl (by rw [frc_size]; exact size27)]
  exact ⟨rfl, rfl⟩

theorem load_want {ops : Array Oper} {rest : List Oper} {o : Oper} {a : Act} {w : World} {Q : Exit → Act → World → Prop} (hw : Region.wanted o (yielded ops a.tmps) = true) (ty : TypeId) (x : Operand) (ho : o.op = .load ty x)
    {B : Nat} {C : Array Value} {T : TypeId} (hB : Blk B C T w) (hx : a.eval x = .pointer (some ⟨B, 0, none⟩)) {d : TypeDesc} (hu : Try.prog.underlying ty = some d) (hd : d.isRow = true) (hi : (Try.prog.info? ty).map (·.size) = some C.size)
    (h : wpList Try.prog ops Q rest (a.put o.dst (.agg C)) w) : wpList Try.prog ops Q (o :: rest) a w :=
  wpList_step fun _ hK => by rw [if_pos hw]; exact wp_load_row ty x ho B hx T C (0, 0) d hB hu (by cases d <;> first | rfl | exact hd) hi (hK _ _ h)

theorem items_same (d : Nat) (e : TypeId) (c : Nat) (xs : Array Value) (w : World) : ∀ is : List Nat, (∀ i ∈ is, ∃ v, (part e xs (i * c)).run Try.prog w = .ok v w ∧ (Op.equalIn d e v v).run Try.prog w = .ok true w) → (Op.eqItems d e c xs xs is).run Try.prog w = .ok true w
  | [], _ => rfl
  | i :: is, h => by
    obtain ⟨v, h1, h2⟩ := h i (by simp)
    have ih := items_same d e c xs w is (fun j hj => h j (by simp [hj]))
    simp only [Op.eqItems, Sem.run_bind, h1, h2, Result.andThen_ok]
    simpa using ih

theorem same_ent (d : Nat) (e : En) (w : World) : (Op.equalIn (d + 2) 30 (.agg e.vals.toArray) (.agg e.vals.toArray)).run Try.prog w = .ok true w := by
  simp [go_sem, En.vals]

theorem same_lane (d : Nat) (p q : En) (w : World) : (Op.equalIn (d + 3) 31 (.agg (lnc p q)) (.agg (lnc p q))).run Try.prog w = .ok true w := by
  obtain ⟨i, hi⟩ : ∃ i, Try.prog.info? 30 = some i := Option.isSome_iff_exists.1 (by kernel_rfl)
  have hc : Try.prog.cellsOf 30 = 6 := by kernel_rfl
  rw [run_equalIn_array w (d + 2) (lnc p q) (lnc p q) Try.underlying31 hi, hc]
  apply items_same
  intro i hi
  have : i = 0 ∨ i = 1 := by have := List.mem_range.1 hi; omega
  rcases this with rfl | rfl
  · exact ⟨_, (by kernel_rfl : _ = Result.ok (.agg p.vals.toArray) w), same_ent d p w⟩
  · exact ⟨_, (by kernel_rfl : _ = Result.ok (.agg q.vals.toArray) w), same_ent d q w⟩

theorem same_frame (d : Nat) (F : Nat → En) (w : World) : (Op.equalIn (d + 4) 33 (.agg (frc F)) (.agg (frc F))).run Try.prog w = .ok true w := by
  obtain ⟨i, hi⟩ : ∃ i, Try.prog.info? 31 = some i := Option.isSome_iff_exists.1 (by kernel_rfl)
  have hc : Try.prog.cellsOf 31 = 12 := by kernel_rfl
  rw [run_equalIn_array w (d + 3) (frc F) (frc F) Try.underlying33 hi, hc]
  apply items_same
  intro i hi
  have : i = 0 ∨ i = 1 ∨ i = 2 := by have := List.mem_range.1 hi; omega
  rcases this with rfl | rfl | rfl
  · exact ⟨_, (by kernel_rfl : _ = Result.ok (.agg (lnc (F 0) (F 1))) w), same_lane d _ _ w⟩
  · exact ⟨_, (by kernel_rfl : _ = Result.ok (.agg (lnc (F 2) (F 3))) w), same_lane d _ _ w⟩
  · exact ⟨_, (by kernel_rfl : _ = Result.ok (.agg (lnc (F 4) (F 5))) w), same_lane d _ _ w⟩

theorem eql_frame (F : Nat → En) (w : World) : (binOp .eql 33 (.agg (frc F)) (.agg (frc F))).run Try.prog w = .ok (.bool true) w := by
  rw [run_eql_struct, same_frame 9996]; rfl
theorem neq_frame (F : Nat → En) (w : World) : (binOp .neq 33 (.agg (frc F)) (.agg (frc F))).run Try.prog w = .ok (.bool false) w := by
  rw [run_neq_struct, same_frame 9996]; rfl
theorem neq_lane (p q : En) (w : World) : (binOp .neq 31 (.agg (lnc p q)) (.agg (lnc p q))).run Try.prog w = .ok (.bool false) w := by
  rw [run_neq_struct, same_lane 9997]; rfl

end Go.Proofs.Ytmbddjejbmjmfaa
