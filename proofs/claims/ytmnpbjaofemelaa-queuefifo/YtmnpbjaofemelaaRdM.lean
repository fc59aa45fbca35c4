/-
  What is told of counts, members and places, and what follows: the least count, who may send, what may be delivered, the order of places, one's position.
  No condition.
-/
import Derived.Test.YtmnpbjaofemelaaRdL
namespace Go.Proofs.Ytmnpbjaofemelaa
set_option maxRecDepth 10000
open Go.RowKit Go.Sort

def lowB (c m : Nat → Nat) (p : Pl) : Bool := (lst m).all fun d => !(decide ((d : Int) < p.f) && decide (c d < p.r))
def kindB (c m : Nat → Nat) (p : Pl) (s : Int) : Bool :=
  if s = 0 then true else if s = 1 then decide (p.r - 1 ≤ leastC c m) else if s = 2 then (decide (p.r - 1 ≤ leastC c m) && lowB c m p) else if s = 3 then decide (p.r < leastC c m) else false
def inB (c m : Nat → Nat) (p : Pl) : Bool := isM m p.f && decide (p.r ≠ 0 ∧ p.r ≤ c p.f.toNat)
def svcB (c m : Nat → Nat) (p : Pl) (s : Int) : Bool := inB c m p && kindB c m p s
def befB (a b : Pl) : Bool := decide (a.r < b.r ∨ a.r = b.r ∧ (a.f < b.f ∨ a.f = b.f ∧ a.s < b.s))
def nxt (n : Nat) : Nat := if n < 4294967295 then n + 1 else n
def posP (c m : Nat → Nat) : Pl :=
  match (lst m).find? (fun d => decide (c d = leastC c m)) with
  | some d => ⟨nxt (leastC c m), (d : Int), 0⟩
  | none => Pl.zero

end Go.Proofs.Ytmnpbjaofemelaa
