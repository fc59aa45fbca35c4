/-
  How a configuration is agreed on: plain answers, and what follows of them.
  No condition.
-/
import Derived.Test.YtbmhfnallpcmpaaCo
import Derived.Test.YtbmhfnallpcmpaaCtU
import Derived.Test.YtbmhfnallpcmpaaImO
import Derived.Test.YtbmhfnallpcmpaaLs
namespace Go.Proofs.Ytbmhfnallpcmpaa
set_option maxRecDepth 10000
open Go.RowKit Go.Sort

/- A packet's parts. -/
def Pk.conf (p : Pk) : Idn := ⟨p.n 2, p.n 3, p.n 4⟩
def Pk.pr (p : Pk) : Idn := ⟨p.n 21, p.n 22, p.n 23⟩
def Pk.mem (p : Pk) : Nat → Nat := fun i => p.n (5 + i)
def Pk.count (p : Pk) : Nat → Nat := fun i => p.n (13 + i)
def Pk.want (p : Pk) : Nat → Nat := fun i => p.n (24 + i)
theorem Pk.p_conf (p : Pk) : ((pkc p).extract 2 (2 + p.conf.vals.length)).toList = p.conf.vals := by kernel_rfl
theorem Pk.p_pr (p : Pk) : ((pkc p).extract 21 (21 + p.pr.vals.length)).toList = p.pr.vals := by kernel_rfl
theorem Pk.p_count (p : Pk) : ((pkc p).extract 13 (13 + (row8 p.count).length)).toList = row8 p.count := by kernel_rfl
theorem Pk.p_want (p : Pk) : ((pkc p).extract 24 (24 + (row8 p.want).length)).toList = row8 p.want := by kernel_rfl
theorem Pk.get_inc (p : Pk) : (pkc p)[1]? = some (.int .u32 (p.n 1 : Int)) := rfl
theorem Pk.get_rdy (p : Pk) : (pkc p)[32]? = some (.bool p.r) := rfl
theorem Pk.get_want (p : Pk) (i : Nat) (h : i < 8) : (pkc p)[24 + i]? = some (.int .u32 (p.want i : Int)) := by
  obtain rfl | rfl | rfl | rfl | rfl | rfl | rfl | rfl : i = 0 ∨ i = 1 ∨ i = 2 ∨ i = 3 ∨ i = 4 ∨ i = 5 ∨ i = 6 ∨ i = 7 := by omega
  all_goals rfl

/- What is known of a daemon. -/
def told (p : Pk) : Pe := ⟨p.n 1, p.conf, p.pr, p.count, p.r⟩
def togP (x y : Pe) : Pe :=
  if cmpId y.conf x.conf = 1 then ⟨x.inc, y.conf, x.pr, y.cut, x.rdy || y.rdy⟩
  else if cmpId y.conf x.conf = 0 then ⟨x.inc, x.conf, x.pr, maxC x.cut y.cut, x.rdy || y.rdy⟩
  else ⟨x.inc, x.conf, x.pr, x.cut, x.rdy || y.rdy⟩
def ordP (x y : Pe) : Int := orI [cmpN y.inc x.inc, cmpId y.pr x.pr]
def updP (x y : Pe) : Pe := if ordP x y = -1 then x else if ordP x y = 1 then y else togP x y
theorem union_two (a b : Nat → Nat) : unionL [a, b] = maxC a b := by
  funext i
  simp [unionL, maxC, noMb]

def adoptB (pr : Idn) (self : Int) (inc : Nat) (p : Pk) : Bool := decide (0 < cmpId p.pr pr) && hasM p.want self inc

/- The others. -/
def oth (m : Nat → Nat) (s : Int) : List Nat := (lst m).filter fun d => !decide ((d : Int) = s)
theorem mem_oth (m : Nat → Nat) (s : Int) (d : Nat) : d ∈ oth m s ↔ d < 8 ∧ m d ≠ 0 ∧ (d : Int) ≠ s := by
  simp [oth, lst, lstTo]
  intro _
  exact ⟨fun h => ⟨h.2, h.1⟩, fun h => ⟨h.2, h.1⟩⟩
theorem oth_len (m : Nat → Nat) (s : Int) : (oth m s).length ≤ 8 := Nat.le_trans (List.length_filter_le _ _) (lst_len m)
def matB (c : Co) (d : Nat) : Bool := decide ((c.peers d).inc = c.want d)
def eachB (c : Co) (q : Pe → Bool) : Bool := (oth c.want c.self).all fun d => matB c d && q (c.peers d)
def allB (c : Co) : Bool := eachB c fun x => Idn.same x.pr c.pr
def doneQ (c : Co) (x : Pe) : Bool := (Idn.same x.pr c.pr && x.rdy) || Idn.same x.conf c.pr
def doneB (c : Co) : Bool := eachB c (doneQ c)
def goesB (c : Co) (d : Nat) : Bool := (matB c d && Idn.same (c.peers d).conf c.conf) && Idn.same (c.peers d).pr c.pr
def targS (c : Co) (u : Nat → Nat) (d : Nat) : Nat → Nat := if goesB c d = true then maxC u (c.peers d).cut else u
def targL (c : Co) (L : List Nat) : Nat → Nat := L.foldl (targS c) c.cut
def targC (c : Co) : Nat → Nat := targL c (oth c.want c.self)
theorem targL_take (c : Co) (L : List Nat) (j d : Nat) (h : L[j]? = some d) : targL c (L.take (j + 1)) = targS c (targL c (L.take j)) d := by
  rw [List.take_add_one, h]
  simp [targL, List.foldl_append]

/- What one proposes. -/
def aboveB (c : Co) (reach : Nat → Nat) (d : Nat) : Bool := decide ((c.peers d).inc = reach d) && decide (0 < cmpId (c.peers d).pr c.pr)
def mineB (c : Co) (reach : Nat → Nat) : Bool := decide ((c.pr.c : Int) = c.self) && decide (c.pr.i = c.own) && mbSame c.want reach
def standB (c : Co) (reach : Nat → Nat) : Bool := mineB c reach && !((oth reach c.self).any (aboveB c reach))
def proB (c : Co) (reach : Nat → Nat) : Bool := !(lst reach).isEmpty && decide ((((lst reach).headD 0 : Nat) : Int) = c.self) && !standB c reach && !decide (c.epoch = 4294967295)
def propI (c : Co) (reach : Nat → Nat) : Idn := if proB c reach = true then ⟨c.epoch + 1, c.self.toNat, c.own⟩ else Idn.zero

end Go.Proofs.Ytbmhfnallpcmpaa
