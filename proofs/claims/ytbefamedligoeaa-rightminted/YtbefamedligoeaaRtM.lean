/-
  Capabilities: what Mint, Check, Revoke, Drop and May answer, as plain functions of a table.
  No condition.
-/
import Derived.Test.YtbefamedligoeaaRt
namespace Go.Proofs.Ytbefamedligoeaa
set_option maxRecDepth 10000
open Go.RowKit Go.Sort

def isHd (h : Nat) (x : Ri) : Bool := decide (x.h = h)
def ofS (s : Nat) (x : Ri) : Bool := decide (x.s = s)
def giftB (g : Int) : Bool := decide (1 ≤ g) && decide (g ≤ 7)
def giveB (g want : Int) : Bool := decide (bits .and .i64 g want = want)
def fstR (h : Nat) (L : List Ri) : Option Nat := L.findIdx? (isHd h)
def valR (h : Nat) (L : List Ri) : Option Nat :=
  match fstR h L with
  | none => none
  | some i => match L[i]? with
    | none => none
    | some x => if x.r then none else some i
def mintE (h : Nat) (g : Int) (L : List Ri) : Int := if h = 0 ∨ (fstR h L).isSome = true ∨ giftB g = false then 1 else if 16 ≤ L.length then 161 else 0
def mintL (h s : Nat) (g : Int) (L : List Ri) : List Ri := if mintE h g L = 0 then L ++ [⟨h, s, g, false⟩] else []
def chkR (h : Nat) (want : Int) (L : List Ri) : Option Nat :=
  match valR h L with
  | none => none
  | some i => match L[i]? with
    | none => none
    | some x => if giftB want = true ∧ giveB x.g want = true then some x.s else none
def chkE (o : Option Nat) : Int := if o.isSome = true then 0 else 160
def revE (h : Nat) (L : List Ri) : Int := if (valR h L).isSome = true then 0 else 160
def offR (x : Ri) : Ri := ⟨x.h, x.s, x.g, true⟩
def revL (h : Nat) (L : List Ri) : List Ri :=
  match valR h L with
  | none => []
  | some i => match L[i]? with
    | none => []
    | some x => L.set i (offR x)
def dropR (s : Nat) (L : List Ri) : List Ri := offL (ofS s) L
def okR (L : List Ri) (i : Nat) (x : Ri) : Bool := decide (x.h ≠ 0) && (decide (fstR x.h L = some i) && giftB x.g)
def okTo (L : List Ri) (j : Nat) : Bool := (List.range j).all fun i => match L[i]? with | none => true | some x => okR L i x
def mayT (L : List Ri) : Bool := decide (L.length ≤ 16) && okTo L L.length

theorem okTo_zero (L : List Ri) : okTo L 0 = true := rfl
theorem okTo_succ (L : List Ri) (j : Nat) (x : Ri) (h : L[j]? = some x) : okTo L (j + 1) = (okTo L j && okR L j x) := by
  unfold okTo
  rw [List.range_succ, List.all_append]
  simp [h]
theorem okTo_no (L : List Ri) (j : Nat) (x : Ri) (h : L[j]? = some x) (hx : okR L j x = false) : okTo L L.length = false := by
  have hj := (List.getElem?_eq_some_iff.1 h).1
  unfold okTo
  rw [List.all_eq_false]
  exact ⟨j, by simpa using hj, by simp [h, hx]⟩

theorem fst_cases (h : Nat) (L : List Ri) : (fstR h L = none ∧ ∀ x ∈ L, isHd h x = false) ∨ ∃ i x, fstR h L = some i ∧ L[i]? = some x ∧ x.h = h := by
  cases e : fstR h L with
  | none => exact .inl ⟨rfl, first_none _ _ e⟩
  | some i =>
    obtain ⟨x, h1, h2, _⟩ := first_some _ _ _ e
    exact .inr ⟨i, x, rfl, h1, by simpa [isHd] using h2⟩
theorem val_of {h i : Nat} {x : Ri} {L : List Ri} (h1 : fstR h L = some i) (h2 : L[i]? = some x) : valR h L = if x.r then none else some i := by
  unfold valR
  simp only [h1, h2]
theorem val_none {h : Nat} {L : List Ri} (h1 : fstR h L = none) : valR h L = none := by
  unfold valR
  simp only [h1]
theorem chk_of {h i : Nat} {x : Ri} {L : List Ri} (want : Int) (h1 : valR h L = some i) (h2 : L[i]? = some x) : chkR h want L = if giftB want = true ∧ giveB x.g want = true then some x.s else none := by
  unfold chkR
  simp only [h1, h2]
theorem chk_none {h : Nat} {L : List Ri} (want : Int) (h1 : valR h L = none) : chkR h want L = none := by
  unfold chkR
  simp only [h1]
theorem val_some {h i : Nat} {L : List Ri} (e : valR h L = some i) : fstR h L = some i ∧ ∃ x, L[i]? = some x ∧ x.r = false := by
  unfold valR at e
  cases e1 : fstR h L with
  | none => rw [e1] at e; cases e
  | some j =>
    rw [e1] at e
    cases e2 : L[j]? with
    | none => simp [e2] at e
    | some x =>
      simp only [e2] at e
      cases e3 : x.r with
      | true => simp [e3] at e
      | false =>
        simp [e3] at e
        subst e
        exact ⟨rfl, x, e2, e3⟩

end Go.Proofs.Ytbefamedligoeaa
