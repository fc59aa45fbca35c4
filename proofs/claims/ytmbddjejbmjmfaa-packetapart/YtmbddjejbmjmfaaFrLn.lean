/-
  A lane laid anew: what laid and With return, the code's and the document's.
  No condition.
-/
import Derived.Test.YtmbddjejbmjmfaaFrCk
import Derived.Lib.SlBuf
namespace Go.Proofs.Ytmbddjejbmjmfaa
set_option maxRecDepth 10000
open Go.RowKit Go.Sort

/- A slice of entries: its cells lie there, or it has none. -/
def Sl (a : Option Addr) (L : List En) (w : World) : Prop := L = [] ∨ ∃ b o, a = some ⟨b, o, none⟩ ∧ b < w.heap.size ∧ w.rangeAt b o (enCells L)

theorem Sl.below {a : Option Addr} {L : List En} {w w' : World} (h : Sl a L w) (hb : Below w.heap.size w w') : Sl a L w' := by
  rcases h with h | ⟨b, o, rfl, hlt, hr⟩
  · exact .inl h
  · refine .inr ⟨b, o, rfl, Nat.lt_of_lt_of_le hlt hb.size, fun j v hv => ?_⟩
    rw [hb.cell (p := ⟨b, o + j, none⟩) hlt]
    exact hr j v hv

theorem info24 : ∃ i, Try.prog.info? 30 = some i ∧ i.size = 6 := by
  have h := size24
  cases hq : Try.prog.info? 30 with
  | none => simp [hq] at h
  | some i => exact ⟨i, rfl, by simpa [hq] using h⟩

theorem cells_take (L : List En) (n : Nat) : (enCells L).take (6 * n) = enCells (L.take n) := by
  induction L generalizing n with
  | nil => simp [enCells]
  | cons e L ih =>
    cases n with
    | zero => simp [enCells]
    | succ n =>
      show (e.vals ++ enCells L).take (6 * (n + 1)) = e.vals ++ enCells (L.take n)
      rw [List.take_append, ← ih n, List.take_of_length_le (by rw [En.vals_length]; omega), En.vals_length, show 6 * (n + 1) - 6 = 6 * n by omega]

theorem copy_six (w : World) (ty : TypeId) (b : Nat) (a : Option Addr) (L : List En) (c : Nat) (hL : Sl a L w) (ht : w.there b 0 12) :
    (Builtin.copy_ #[50, 50] ty #[.slice (some ⟨b, 0, none⟩) 2 2, .slice a L.length c]).run Try.prog w = .ok (goInt (Nat.min L.length 2 : Nat)) (w.setCells b 0 (enCells (L.take 2))) := by
  obtain ⟨i, hi, hs⟩ := info24
  rcases hL with rfl | ⟨g, o, rfl, _, hr⟩
  · have hl : ∀ (x : Addr), (loadCells x 0).run Try.prog w = .ok #[] w := fun x => by simpa using run_loadCells_list (P := Try.prog) w x [] (by simp)
    cases a <;> simp [Builtin.copy_, run_underlying Try.underlying50, Builtin.lenOf, Builtin.firstCells, sizeOf, typeInfo, hi, storeCells, hl, enCells, World.setCells]
  · have hlen : (enCells (L.take 2)).length = 6 * Nat.min L.length 2 := by
      rw [enCells_length, List.length_take]; congr 1; exact Nat.min_comm _ _
    have hl := run_loadCells_list (P := Try.prog) w ⟨g, o, none⟩ (enCells (L.take 2)) (fun j v hv => by
      rw [Addr.add_mid]
      refine hr j v ?_
      rw [← cells_take, List.getElem?_take] at hv
      split at hv
      · exact hv
      · cases hv)
    have hm : Nat.min L.length 2 ≤ 2 := Nat.min_le_right _ _
    have hst := run_storeCells_cells (P := Try.prog) b 0 (enCells (L.take 2)) 0 w (fun j hj => by simpa using (ht j (by omega)).1) (fun j hj => by simpa using (ht j (by omega)).2) (enCells_one _)
    rw [hlen] at hl
    simp only [Nat.add_zero] at hst
    simp [Builtin.copy_, run_underlying Try.underlying50, Builtin.lenOf, Builtin.firstCells, sizeOf, typeInfo, hi, hs]
    rw [Nat.mul_comm, hl]
    simp [hst]

theorem zero_lane : (Try.prog.info? 31).map (fun i => (i.zero, i.size)) = some (some (.agg (lnc En.zero En.zero)), 12) := by kernel_rfl

theorem alloc_ln {ops : Array Oper} {rest : List Oper} {o : Oper} {a : Act} {w : World} {Q : Exit → Act → World → Prop} (hgd : o.guard = none) (ho : o.op = .alloc 31)
    (h : wpList Try.prog ops Q rest (a.put o.dst (.pointer (some ⟨w.heap.size, 0, none⟩))) (w.alloc (.cells (lnc En.zero En.zero) 31))) : wpList Try.prog ops Q (o :: rest) a w :=
  wpList_plain hgd fun _ hK => by
    have hz := (zero_of_info zero_lane).1
    have hk := hK _ _ h
    unfold Oper.wp execOp
    simp only [ho, Instr.alloc, Sem.run_bind, hz, Result.andThen_ok]
    exact hk

theorem lane_put (L : List En) : putAt (lnc En.zero En.zero) 0 (enCells (L.take 2)) = lnc (L.getD 0 En.zero) (L.getD 1 En.zero) := by
  rcases L with _ | ⟨x, _ | ⟨y, r⟩⟩
  all_goals kernel_rfl

theorem frc_congr {F G : Nat → En} (h : ∀ y, y < 6 → F y = G y) : frc F = frc G := by
  unfold frc Fr.list
  rw [h 0 (by omega), h 1 (by omega), h 2 (by omega), h 3 (by omega), h 4 (by omega), h 5 (by omega)]

def withL (F : Nat → En) (n : Int) (L : List En) : Nat → En := fun y => if ((y / 2 : Nat) : Int) = n then L.getD (y % 2) En.zero else F y

theorem withL_no (F : Nat → En) (n : Int) (L : List En) (h : ¬ (0 ≤ n ∧ n < 3)) : frc (withL F n L) = frc F := by
  apply frc_congr
  intro y hy
  unfold withL
  rw [if_neg]
  intro e
  omega

theorem lane_in (F : Nat → En) (t : Nat) (ht : t < 3) (L : List En) : putAt (frc F) (t * 12) (lnc (L.getD 0 En.zero) (L.getD 1 En.zero)).toList = frc (withL F t L) := by
  have h : ∀ p q : En, putAt (frc F) (t * 12) (lnc p q).toList = frc (fun y => if y / 2 = t then (if y % 2 = 0 then p else q) else F y) := by
    intro p q
    obtain rfl | rfl | rfl : t = 0 ∨ t = 1 ∨ t = 2 := by omega
    all_goals kernel_rfl
  rw [h]
  apply frc_congr
  intro y _
  unfold withL
  by_cases h1 : y / 2 = t
  · have h2 : ((y / 2 : Nat) : Int) = (t : Int) := by omega
    rw [if_pos h1, if_pos h2]
    rcases (by omega : y % 2 = 0 ∨ y % 2 = 1) with h3 | h3
    · rw [if_pos h3, h3]
    · rw [if_neg (by omega), h3]
  · have h2 : ¬ ((y / 2 : Nat) : Int) = (t : Int) := by omega
    rw [if_neg h1, if_neg h2]

theorem store_run {B o : Nat} {C cells : Array Value} {T : TypeId} {w : World} (hB : Blk B C T w) (hs : o + cells.size ≤ C.size) (h1 : cells.all (·.oneCell') = true) :
    (storeCells ⟨B, o, none⟩ cells.toList).run Try.prog w = .ok () (w.setCells B o cells.toList) := by
  have ht := hB.there o cells.size hs
  have h := run_storeCells_cells (P := Try.prog) B o cells.toList 0 w (fun j hj => by simpa using (ht j (by simpa using hj)).1) (fun j hj => by simpa using (ht j (by simpa using hj)).2)
    (fun v hv => (Array.all_eq_true_iff_forall_mem.1 h1) v (by simpa using hv))
  simpa using h

theorem ret_one {fn : Func} {p : Tmp} (hr : fn.results = #[.cell p 33]) {tmps : Array Value} {w : World} {B : Nat} {C : Array Value} {T : TypeId} (hp : tmps.getD p undef = .pointer (some ⟨B, 0, none⟩)) (hB : Blk B C T w) (hC : C.size = 36) :
    (results fn tmps).run Try.prog w = .ok (.agg C) w :=
  results_cell_row hr tmps w B T C (0, 0) _ hp hB Try.underlying33 rfl (by rw [hC]; exact size27)

end Go.Proofs.Ytmbddjejbmjmfaa
