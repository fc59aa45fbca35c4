/-
  Records: their lines and texts, whether they are an audit, one more, how many failed, as plain functions; what follows of them.
  No condition.
-/
import Derived.Test.YtehmcncclpimjaaDoorAu
import Derived.Test.YtehmcncclpimjaaDoorDg
namespace Go.Proofs.YtehmcncclpimjaaDoor
set_option maxRecDepth 10000
open Go.RowKit Go.Sort

/- A record's line, as bytes; records' text. -/
def lineL (r : Rc) : List UInt8 := digs r.n ++ 32 :: (digs r.t ++ 32 :: (sgns r.k ++ 32 :: 34 :: (quo (bL r.c) ++ [34, 10])))
def textL (L : List Rc) : List UInt8 := L.flatMap lineL
theorem textL_nil : textL [] = [] := rfl
theorem textL_cons (r : Rc) (L : List Rc) : textL (r :: L) = lineL r ++ textL L := rfl
theorem textL_append (L M : List Rc) : textL (L ++ M) = textL L ++ textL M := by unfold textL; rw [List.flatMap_append]
theorem textL_snoc (L : List Rc) (r : Rc) : textL (L ++ [r]) = textL L ++ lineL r := by rw [textL_append, textL_cons, textL_nil, List.append_nil]
theorem lineL_inj {a b : Rc} (h : lineL a = lineL b) : a = b := by
  have d32 : isDig 32 = false := rfl
  unfold lineL at h
  obtain ⟨h1, h⟩ := cut_inj (digs_no d32 _) (digs_no d32 _) h
  obtain ⟨h2, h⟩ := cut_inj (digs_no d32 _) (digs_no d32 _) h
  obtain ⟨h3, h⟩ := cut_inj (sgns_no d32 (by decide) _) (sgns_no d32 (by decide) _) h
  have h := (List.cons.inj h).2
  have q34 : ∀ l, (34 : UInt8) ∉ quo l := fun l hm => (quo_mem hm).2.2 rfl
  obtain ⟨h4, _⟩ := cut_inj (q34 _) (q34 _) h
  obtain ⟨n, t, c, k⟩ := a
  obtain ⟨n', t', c', k'⟩ := b
  simp only at h1 h2 h3 h4
  rw [digs_inj h1, digs_inj h2, sgns_inj h3, bL_inj (quo_inj h4)]
/- A byte 10 stands at its end alone. -/
def bodyL (r : Rc) : List UInt8 := digs r.n ++ 32 :: (digs r.t ++ 32 :: (sgns r.k ++ 32 :: 34 :: (quo (bL r.c) ++ [34])))
theorem lineL_body (r : Rc) : lineL r = bodyL r ++ [10] := by
  unfold lineL bodyL
  simp
theorem bodyL_no (r : Rc) : (10 : UInt8) ∉ bodyL r := by
  have d10 : isDig 10 = false := rfl
  intro h
  unfold bodyL at h
  rcases List.mem_append.1 h with h | h
  · exact digs_no d10 _ h
  rcases List.mem_cons.1 h with h | h
  · cases h
  rcases List.mem_append.1 h with h | h
  · exact digs_no d10 _ h
  rcases List.mem_cons.1 h with h | h
  · cases h
  rcases List.mem_append.1 h with h | h
  · exact sgns_no d10 (by decide) _ h
  rcases List.mem_cons.1 h with h | h
  · cases h
  rcases List.mem_cons.1 h with h | h
  · cases h
  rcases List.mem_append.1 h with h | h
  · have := (quo_mem h).1
    have h10 : (10 : UInt8).toNat = 10 := rfl
    omega
  · rw [List.mem_singleton] at h
    cases h
theorem lineL_ne (r : Rc) : lineL r ≠ [] := by rw [lineL_body]; simp
theorem textL_inj : ∀ {L M : List Rc}, textL L = textL M → L = M
  | [], [], _ => rfl
  | [], m :: M, h => by
    rw [textL_cons, textL_nil] at h
    exact absurd (List.append_eq_nil_iff.1 h.symm).1 (lineL_ne m)
  | r :: L, [], h => by
    rw [textL_cons, textL_nil] at h
    exact absurd (List.append_eq_nil_iff.1 h).1 (lineL_ne r)
  | r :: L, m :: M, h => by
    rw [textL_cons, textL_cons, lineL_body, lineL_body, List.append_assoc, List.append_assoc] at h
    obtain ⟨h1, h2⟩ := cut_inj (bodyL_no r) (bodyL_no m) h
    have h1 : lineL r = lineL m := by rw [lineL_body, lineL_body, h1]
    rw [lineL_inj h1, textL_inj h2]
/- An audit: numbers from 1 on, of ticks that do not fall. -/
def okA (L : List Rc) (i : Nat) (r : Rc) : Bool := decide (r.n = i + 1) && (if i = 0 then true else match L[i - 1]? with | none => true | some p => decide (p.t ≤ r.t))
def chkTo (L : List Rc) (j : Nat) : Bool := (List.range j).all fun i => match L[i]? with | none => true | some r => okA L i r
def chkA (L : List Rc) : Bool := chkTo L L.length
def failN (L : List Rc) : Nat := (L.filter fun r => decide (r.k ≠ 0)).length
def tickA (L : List Rc) (t : Nat) : Nat := match L.getLast? with | none => t | some r => max t r.t
def addA (L : List Rc) (t : Nat) (c : ByteArray) (k : Int) : List Rc := L ++ [⟨L.length + 1, tickA L t, c, k⟩]
theorem chkTo_succ (L : List Rc) (j : Nat) (r : Rc) (h : L[j]? = some r) : chkTo L (j + 1) = (chkTo L j && okA L j r) := by
  unfold chkTo
  rw [List.range_succ, List.all_append]
  simp [h]
theorem chkTo_no (L : List Rc) (j : Nat) (r : Rc) (h : L[j]? = some r) (hr : okA L j r = false) : chkA L = false := by
  have hj := (List.getElem?_eq_some_iff.1 h).1
  unfold chkA chkTo
  rw [List.all_eq_false]
  exact ⟨j, by simpa using hj, by simp [h, hr]⟩
theorem chkTo_iff (L : List Rc) (j : Nat) : chkTo L j = true ↔ ∀ i, i < j → ∀ r, L[i]? = some r → okA L i r = true := by
  unfold chkTo
  rw [List.all_eq_true]
  constructor
  · intro h i hi r hr
    have := h i (by simpa using hi)
    simpa [hr] using this
  · intro h i hi
    cases e : L[i]? with
    | none => rfl
    | some r => exact h i (by simpa using hi) r e
theorem okA_append (L M : List Rc) (i : Nat) (r : Rc) (hi : i < L.length) : okA (L ++ M) i r = okA L i r := by
  unfold okA
  rw [List.getElem?_append_left (by omega)]
theorem tickA_ge (L : List Rc) (t : Nat) : t ≤ tickA L t := by
  unfold tickA
  split
  · exact Nat.le_refl _
  · exact Nat.le_max_left _ _
theorem chkA_add {L : List Rc} (h : chkA L = true) (t : Nat) (c : ByteArray) (k : Int) : chkA (addA L t c k) = true := by
  unfold chkA at *
  rw [chkTo_iff] at *
  intro i hi r hr
  unfold addA at hi hr ⊢
  rw [List.length_append, List.length_singleton] at hi
  by_cases hl : i < L.length
  · rw [List.getElem?_append_left hl] at hr
    rw [okA_append _ _ _ _ hl]
    exact h i hl r hr
  · have : i = L.length := by omega
    subst this
    rw [List.getElem?_append_right (Nat.le_refl _), Nat.sub_self] at hr
    cases hr
    unfold okA
    simp only [decide_true, Bool.true_and]
    split
    · rfl
    · rename_i h0
      rw [List.getElem?_append_left (by omega)]
      cases e : L[L.length - 1]? with
      | none => rfl
      | some p =>
        have hl : L.getLast? = some p := by rw [List.getLast?_eq_getElem?]; exact e
        simp only [decide_eq_true_eq]
        unfold tickA
        rw [hl]
        exact Nat.le_max_right _ _
theorem failN_append (L M : List Rc) : failN (L ++ M) = failN L + failN M := by unfold failN; rw [List.filter_append, List.length_append]
theorem failN_snoc (L : List Rc) (r : Rc) : failN (L ++ [r]) = failN L + (if r.k ≠ 0 then 1 else 0) := by
  rw [failN_append]
  congr 1
  unfold failN
  by_cases h : r.k = 0 <;> simp [h]
theorem failN_le (L : List Rc) : failN L ≤ L.length := List.length_filter_le _ _
/- What text says what: as far as there is one. -/
def IsLine (s : List UInt8) (o : Option Rc) : Prop := match o with | some r => lineL r = s | none => ∀ r, lineL r ≠ s
theorem IsLine.one {s : List UInt8} {o p : Option Rc} (h : IsLine s o) (k : IsLine s p) : o = p := by
  cases o <;> cases p
  · rfl
  · exact absurd k (h _)
  · exact absurd h (k _)
  · rw [lineL_inj (Eq.trans h (Eq.symm k))]
def IsText (s : List UInt8) (o : Option (List Rc)) : Prop := match o with | some L => textL L = s ∧ chkA L = true | none => ∀ L, textL L = s → chkA L = false
theorem IsText.one {s : List UInt8} {o p : Option (List Rc)} (h : IsText s o) (k : IsText s p) : o = p := by
  cases o with
  | none =>
    cases p with
    | none => rfl
    | some M => have := h M k.1; rw [k.2] at this; cases this
  | some L =>
    cases p with
    | none => have := k L h.1; rw [h.2] at this; cases this
    | some M => rw [textL_inj (h.1.trans k.1.symm)]
/- A text of lines: a first line, and the rest. -/
theorem text_first {L : List Rc} {a r : List UInt8} (ha : (10 : UInt8) ∉ a) (h : textL L = a ++ 10 :: r) : ∃ x M, L = x :: M ∧ lineL x = a ++ [10] ∧ textL M = r := by
  cases L with
  | nil => rw [textL_nil] at h; simp at h
  | cons x M =>
    rw [textL_cons, lineL_body, List.append_assoc] at h
    obtain ⟨h1, h2⟩ := cut_inj (bodyL_no x) ha h
    exact ⟨x, M, rfl, by rw [lineL_body, h1], h2⟩
theorem text_ends {L : List Rc} {a : List UInt8} (ha : (10 : UInt8) ∉ a) (h : textL L = a) : a = [] ∧ L = [] := by
  cases L with
  | nil => rw [textL_nil] at h; exact ⟨h.symm, rfl⟩
  | cons x M =>
    rw [textL_cons, lineL_body] at h
    exact absurd (by rw [← h]; simp) ha

end Go.Proofs.YtehmcncclpimjaaDoor
