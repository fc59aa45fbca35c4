/-
  Rosters: what Open, Close, Next, Has and May answer, as plain functions of the last Id and the list; what follows of them.
  No condition.
-/
import Derived.Test.YthhloomoiihfnaaRo
namespace Go.Proofs.Ythhloomoiihfnaa
set_option maxRecDepth 10000
open Go.RowKit Go.Sort

def isI (d : Nat) (x : Se) : Bool := decide (x.i = d)
def fstS (d : Nat) (L : List Se) : Option Nat := L.findIdx? (isI d)
def hasS (d : Nat) (L : List Se) : Bool := (fstS d L).isSome
def opnE (l : Nat) (L : List Se) : Int := if 4 ≤ L.length ∨ 65535 ≤ l then 161 else 0
def opnL (l : Nat) (L : List Se) : List Se := if opnE l L = 0 then L ++ [⟨l + 1, 0⟩] else []
def opnI (l : Nat) (L : List Se) : Nat := if opnE l L = 0 then l + 1 else 0
def clsE (d : Nat) (L : List Se) : Int := if hasS d L = true then 0 else 162
def clsL (d : Nat) (L : List Se) : List Se :=
  match fstS d L with
  | none => []
  | some i => L.eraseIdx i
def clsI (l d : Nat) (L : List Se) : Nat := if hasS d L = true then l else 0
/- The first one's place, if it may send. -/
def sndS (d : Nat) (L : List Se) : Option Nat :=
  match fstS d L with
  | none => none
  | some i => match L[i]? with
    | none => none
    | some x => if 4294967295 ≤ x.n then none else some i
def sndE (d : Nat) (L : List Se) : Int := if (sndS d L).isSome = true then 0 else 162
def sndL (d : Nat) (L : List Se) : List Se :=
  match sndS d L with
  | none => []
  | some i => match L[i]? with
    | none => []
    | some x => L.set i ⟨x.i, x.n + 1⟩
def sndN (d : Nat) (L : List Se) : Nat :=
  match sndS d L with
  | none => 0
  | some i => match L[i]? with
    | none => 0
    | some x => x.n + 1
def sndI (l d : Nat) (L : List Se) : Nat := if (sndS d L).isSome = true then l else 0
def ahdB (L : List Se) (i : Nat) (x : Se) : Bool :=
  if i = 0 then true else match L[i - 1]? with
    | none => true
    | some y => decide (y.i < x.i)
def okS (l : Nat) (L : List Se) (i : Nat) (x : Se) : Bool := decide (1 ≤ x.i) && (decide (x.i ≤ l) && (decide (x.n ≤ 4294967295) && ahdB L i x))
def okSTo (l : Nat) (L : List Se) (j : Nat) : Bool := (List.range j).all fun i => match L[i]? with | none => true | some x => okS l L i x
def mayS (l : Nat) (L : List Se) : Bool := decide (L.length ≤ 4 ∧ l ≤ 65535) && okSTo l L L.length
theorem opn_len (l : Nat) (L : List Se) : (opnL l L).length ≤ L.length + 1 := by
  unfold opnL
  split
  · simp
  · simp
theorem cls_len (d : Nat) (L : List Se) : (clsL d L).length ≤ L.length := by
  unfold clsL
  split
  · simp
  · exact List.length_eraseIdx_le _ _
theorem snd_len (d : Nat) (L : List Se) : (sndL d L).length ≤ L.length := by
  unfold sndL
  split
  · simp
  · split
    · simp
    · simp

end Go.Proofs.Ythhloomoiihfnaa
