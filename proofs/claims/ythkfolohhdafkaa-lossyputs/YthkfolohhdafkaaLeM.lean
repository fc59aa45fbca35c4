/-
  Letters under way as plain answers: which ones go from one to another, which one a pick names, what is left where it is taken, what comes where letters are put, and where one is turned.
  No condition; nothing of the program is named here.
-/
import Derived.Test.YthkfolohhdafkaaLe
import Derived.Test.YthkfolohhdafkaaHeld
namespace Go.Proofs.Ythkfolohhdafkaa
set_option maxRecDepth 10000
open Go.RowKit Go.Sort

def fitB (f u : Int) (x : Le) : Bool := x.fr == f && x.u == u

/- Where the letters of a link stand, among the first j. -/
def plcTo (f u : Int) (L : List Le) (j : Nat) : List Nat := (List.range j).filter fun i => (L[i]?).any (fitB f u)
def plc (f u : Int) (L : List Le) : List Nat := plcTo f u L L.length
theorem plcTo_zero (f u : Int) (L : List Le) : plcTo f u L 0 = [] := rfl
theorem plcTo_no (f u : Int) (L : List Le) (j : Nat) (x : Le) (hx : L[j]? = some x) (h : fitB f u x = false) : plcTo f u L (j + 1) = plcTo f u L j := by simp [plcTo, List.range_succ, hx, h]
theorem plcTo_yes (f u : Int) (L : List Le) (j : Nat) (x : Le) (hx : L[j]? = some x) (h : fitB f u x = true) : plcTo f u L (j + 1) = plcTo f u L j ++ [j] := by simp [plcTo, List.range_succ, hx, h]
theorem plcTo_len (f u : Int) (L : List Le) (j : Nat) : (plcTo f u L j).length ≤ j := by
  have := List.length_filter_le (fun i => (L[i]?).any (fitB f u)) (List.range j)
  rwa [List.length_range] at this
theorem plc_len (f u : Int) (L : List Le) : (plc f u L).length ≤ L.length := plcTo_len f u L _
theorem mem_plc (f u : Int) (L : List Le) (p : Nat) : p ∈ plc f u L ↔ ∃ x, L[p]? = some x ∧ fitB f u x = true := by
  simp only [plc, plcTo, List.mem_filter, List.mem_range]
  constructor
  · rintro ⟨h1, h2⟩
    rw [List.getElem?_eq_getElem h1] at h2 ⊢
    exact ⟨_, rfl, by simpa using h2⟩
  · rintro ⟨x, h1, h2⟩
    exact ⟨(List.getElem?_eq_some_iff.1 h1).1, by rw [h1]; simpa using h2⟩

/- The one that an index falls on, round and round. -/
def onL (P : List Nat) (ix : Int) : Option Nat := P[(ix % (P.length : Int)).toNat]?
def pickL (f u ix : Int) (L : List Le) : Option Nat := onL (plc f u L) ix
theorem onL_some (P : List Nat) (ix : Int) (h : P ≠ []) : ∃ p, onL P ix = some p ∧ p ∈ P := by
  have hl : 0 < P.length := List.length_pos_iff.2 h
  have h1 := Int.emod_nonneg ix (b := (P.length : Int)) (by omega)
  have h2 := Int.emod_lt_of_pos ix (b := (P.length : Int)) (by omega)
  have hlt : (ix % (P.length : Int)).toNat < P.length := by omega
  exact ⟨_, List.getElem?_eq_getElem hlt, List.getElem_mem _⟩
theorem pickL_none {f u ix : Int} {L : List Le} (h : pickL f u ix L = none) : plc f u L = [] := by
  apply Classical.byContradiction
  intro hn
  obtain ⟨p, h1, _⟩ := onL_some (plc f u L) ix hn
  rw [pickL, h1] at h
  cases h
theorem pickL_some {f u ix : Int} {L : List Le} {p : Nat} (h : pickL f u ix L = some p) : ∃ x, L[p]? = some x ∧ fitB f u x = true :=
  (mem_plc f u L p).1 (List.mem_of_getElem? h)
theorem pickL_lt {f u ix : Int} {L : List Le} {p : Nat} (h : pickL f u ix L = some p) : p < L.length := by
  obtain ⟨x, hx, _⟩ := pickL_some h
  exact (List.getElem?_eq_some_iff.1 hx).1

/- Taken. -/
def leftL (f u ix : Int) (L : List Le) : List Le := match pickL f u ix L with
  | none => L
  | some p => L.take p ++ L.drop (p + 1)
def gotL (f u ix : Int) (L : List Le) : Le := match pickL f u ix L with
  | none => Le.zero
  | some p => L.getD p Le.zero
def isL (f u ix : Int) (L : List Le) : Bool := (pickL f u ix L).isSome

/- Put. -/
def putL (L X : List Le) : List Le := L.take 4096 ++ X.take (4096 - min L.length 4096)

/- A text whose bytes from one on are turned by a mask's. -/
def mskB (m k : Nat) : UInt8 := UInt8.ofNat (m / 256 ^ k)
def trnF (s : ByteArray) (a m : Nat) (j : Nat) : UInt8 := if a ≤ j then at0 s j ^^^ mskB m (j - a) else at0 s j
def trnT (s : ByteArray) (a m : Nat) : ByteArray := textOf s.size (trnF s a m)
theorem trnT_size (s : ByteArray) (a m : Nat) : (trnT s a m).size = s.size := textOf_size _ _
def trnE (x : Le) (a m : Nat) : Le := ⟨x.fr, x.u, trnT x.t a m, !decide (trnT x.t a m = x.t)⟩
def trnL (f u ix a : Int) (m : Nat) (L : List Le) : List Le := match pickL f u ix L with
  | none => L
  | some p => if a < 0 ∨ (L.getD p Le.zero).b = true then L else L.set p (trnE (L.getD p Le.zero) a.toNat m)

theorem mskB_far (m k : Nat) (hm : m < 4294967296) (hk : 4 ≤ k) : mskB m k = 0 := by
  unfold mskB
  have h : (256 : Nat) ^ 4 ≤ 256 ^ k := Nat.pow_le_pow_right (by decide) hk
  rw [Nat.div_eq_of_lt (by omega)]
  rfl

end Go.Proofs.Ythkfolohhdafkaa
