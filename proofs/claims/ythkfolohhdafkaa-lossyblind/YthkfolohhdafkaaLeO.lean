/-
  Taken by index 0 a link's letters come in order: what is left, and which one is picked, as plain answers.
  No condition; nothing of the program is named here.
-/
import Derived.Test.YthkfolohhdafkaaLeC
namespace Go.Proofs.Ythkfolohhdafkaa
set_option maxRecDepth 10000
open Go.RowKit Go.Sort

theorem plcTo_le (f u : Int) (L : List Le) (j : Nat) : ∀ n, j ≤ n → ∃ r, plcTo f u L n = plcTo f u L j ++ r
  | 0, h => by
    obtain rfl : j = 0 := by omega
    exact ⟨[], by simp⟩
  | n + 1, h => by
    by_cases hj : j = n + 1
    · exact ⟨[], by simp [hj]⟩
    · obtain ⟨r, hr⟩ := plcTo_le f u L j n (by omega)
      refine ⟨r ++ [n].filter (fun i => (L[i]?).any (fitB f u)), ?_⟩
      rw [← List.append_assoc, ← hr]
      simp [plcTo, List.range_succ]
theorem plcTo_nil (f u : Int) (R D : List Le) (hR : ∀ y ∈ R, fitB f u y = false) : plcTo f u (R ++ D) R.length = [] := by
  unfold plcTo
  rw [List.filter_eq_nil_iff]
  intro i hi
  have hi := List.mem_range.1 hi
  rw [List.getElem?_append_left hi, List.getElem?_eq_getElem hi]
  simp [hR _ (List.getElem_mem hi)]
theorem plc_nil (f u : Int) (R : List Le) (hR : ∀ y ∈ R, fitB f u y = false) : plc f u R = [] := by
  have := plcTo_nil f u R [] hR
  rwa [List.append_nil] at this
theorem pick_none (f u ix : Int) (R : List Le) (hR : ∀ y ∈ R, fitB f u y = false) : pickL f u ix R = none := by
  unfold pickL
  rw [plc_nil f u R hR]
  rfl
theorem pick_first (f u : Int) (R : List Le) (x : Le) (D : List Le) (hR : ∀ y ∈ R, fitB f u y = false) (hx : fitB f u x = true) : pickL f u 0 (R ++ x :: D) = some R.length := by
  have h1 := plcTo_yes f u (R ++ x :: D) R.length x (by simp) hx
  rw [plcTo_nil f u R (x :: D) hR] at h1
  obtain ⟨r, hr⟩ := plcTo_le f u (R ++ x :: D) (R.length + 1) (R ++ x :: D).length (by simp)
  rw [h1] at hr
  unfold pickL plc
  rw [hr]
  simp [onL]

/- What is not of the link, among the first j. -/
def othL (f u : Int) (L : List Le) (j : Nat) : List Le := (L.take j).filter fun x => !fitB f u x
theorem othL_no (f u : Int) (L : List Le) (j : Nat) : ∀ y ∈ othL f u L j, fitB f u y = false := by
  intro y hy
  have := (List.mem_filter.1 hy).2
  simpa using this
theorem othL_other (f u : Int) (L : List Le) (j : Nat) (x : Le) (hx : L[j]? = some x) (h : fitB f u x = false) : othL f u L (j + 1) = othL f u L j ++ [x] := by
  unfold othL
  rw [List.take_add_one, hx]
  simp [h]
theorem othL_fit (f u : Int) (L : List Le) (j : Nat) (x : Le) (hx : L[j]? = some x) (h : fitB f u x = true) : othL f u L (j + 1) = othL f u L j := by
  unfold othL
  rw [List.take_add_one, hx]
  simp [h]
theorem othL_len (f u : Int) (L : List Le) (j : Nat) : (othL f u L j).length ≤ j := by
  have h1 := List.length_filter_le (fun x => !fitB f u x) (L.take j)
  have h2 := List.length_take_le j L
  unfold othL
  omega
/- What is left behind j of them. -/
def lefL (f u : Int) (L : List Le) (j : Nat) : List Le := othL f u L j ++ L.drop j
theorem drop_at (L : List Le) (j : Nat) (x : Le) (hx : L[j]? = some x) : L.drop j = x :: L.drop (j + 1) := by
  obtain ⟨h, e⟩ := List.getElem?_eq_some_iff.1 hx
  rw [List.drop_eq_getElem_cons h, e]
theorem lefL_other (f u : Int) (L : List Le) (j : Nat) (x : Le) (hx : L[j]? = some x) (h : fitB f u x = false) : lefL f u L (j + 1) = lefL f u L j := by
  unfold lefL
  rw [othL_other f u L j x hx h, drop_at L j x hx]
  simp
theorem lefL_took (f u : Int) (L : List Le) (j : Nat) (x : Le) (hx : L[j]? = some x) (h : fitB f u x = true) : leftL f u 0 (lefL f u L j) = lefL f u L (j + 1) ∧ gotL f u 0 (lefL f u L j) = x ∧ isL f u 0 (lefL f u L j) = true := by
  have hp := pick_first f u (othL f u L j) x (L.drop (j + 1)) (othL_no f u L j) h
  have e : lefL f u L j = othL f u L j ++ x :: L.drop (j + 1) := by unfold lefL; rw [drop_at L j x hx]
  rw [e]
  refine ⟨?_, ?_, ?_⟩
  · unfold leftL
    rw [hp]
    show List.take _ _ ++ List.drop _ _ = _
    unfold lefL
    rw [othL_fit f u L j x hx h, List.take_left, List.drop_append]
    simp
  · unfold gotL
    rw [hp]
    simp [List.getD]
  · unfold isL
    rw [hp]
    rfl
theorem lefL_end (f u : Int) (L : List Le) (j : Nat) (h : L.length ≤ j) : lefL f u L j = othL f u L j ∧ isL f u 0 (lefL f u L j) = false := by
  have e : lefL f u L j = othL f u L j := by unfold lefL; rw [List.drop_eq_nil_of_le h, List.append_nil]
  refine ⟨e, ?_⟩
  rw [e]
  unfold isL
  rw [pick_none f u 0 _ (othL_no f u L j)]
  rfl
theorem lefL_len (f u : Int) (L : List Le) (j : Nat) : (lefL f u L j).length ≤ j + L.length := by
  have h1 := othL_len f u L j
  unfold lefL
  rw [List.length_append, List.length_drop]
  omega
theorem lefL_zero (f u : Int) (L : List Le) : lefL f u L 0 = L := rfl

theorem Lg.apart {α : Type} {f : α → List Value} {k : Nat} {T : TypeId} {B : Nat} {S : List Nat} {a : Option Addr} {c : Nat} {L : List α} {w w' : World} (h : Lg f k T B a c L w) (hk : Kp S w w') (hS : ∀ A ∈ blkOf a, A ∉ S) : Lg f k T B a c L w' := by
  rcases h with h | ⟨g, e, hB, h⟩
  · exact .inl h
  · exact .inr ⟨g, e, hB, h.kp hk (hS g (by rw [e]; simp [blkOf]))⟩
theorem Lg.max {α : Type} {f : α → List Value} {k : Nat} {T : TypeId} {B : Nat} {a : Option Addr} {c : Nat} {L : List α} {w : World} (h : Lg f k T B a c L w) : c ≤ 9223372036854775807 := by
  rcases h with ⟨_, rfl, _⟩ | ⟨g, e, hB, h⟩
  · decide
  · have := h.len.2
    simp only [maxLen] at this
    omega

/- One letter, laid as a slice of its own. -/
theorem box_leW {ops : Array Oper} {rest : List Oper} {op : Oper} {a : Act} {w : World} {Q : Exit → Act → World → Prop} (hgd : op.guard = none) (y : Operand) (ho : op.op = .buildSlice 22 1 #[(0, y)]) (x : Le) (hx : a.eval y = .agg x.arr)
    (h : ∀ W, Li Le.vals w.heap.size (some ⟨w.heap.size, 0, none⟩) [x] W → Below w.heap.size w W → wpList Try.prog ops Q rest (a.put op.dst (.slice (some ⟨w.heap.size, 0, none⟩) 1 1)) W) : wpList Try.prog ops Q (op :: rest) a w :=
  box_le hgd y ho x hx (h _ (li_box (f := Le.vals) w x 27 _ (Nat.le_refl _)) (below_box w _))

end Go.Proofs.Ythkfolohhdafkaa
