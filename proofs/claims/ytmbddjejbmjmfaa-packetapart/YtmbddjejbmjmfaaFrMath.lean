/-
  Frames as plain data: six entries, their 36 cells, and what follows of their order.
  No condition.
-/
import Derived.Test.YtmbddjejbmjmfaaEntAll
import Derived.Deep.MidRow
import Derived.Deep.WholeRow
namespace Go.Proofs.Ytmbddjejbmjmfaa
set_option maxRecDepth 10000
open Go.RowKit Go.Sort

structure En where
  k : Int
  sv : Int
  g : Int
  se : Nat
  n : Nat
  t : ByteArray

def En.vals (e : En) : List Value := [.int .i64 e.k, .int .i64 e.sv, .int .i64 e.g, .int .u64 (e.se : Int), .int .u64 (e.n : Int), .string e.t]
def En.zero : En := ⟨0, 0, 0, 0, 0, ⟨#[]⟩⟩
def En.may (e : En) : Bool := Ent.may e.k e.sv e.g e.se e.n e.t
def En.bytes (e : En) : ByteArray := Ent.bytes e.k.toNat e.sv.toNat e.g.toNat e.se e.n e.t
def enCells (l : List En) : List Value := l.flatMap En.vals
def Fr.list (F : Nat → En) : List En := [F 0, F 1, F 2, F 3, F 4, F 5]
def frc (F : Nat → En) : Array Value := (enCells (Fr.list F)).toArray
def lnc (a b : En) : Array Value := (enCells [a, b]).toArray
def Fr.may (F : Nat → En) : Bool := (Fr.list F).all En.may
def Fr.upto (F : Nat → En) : Nat → List UInt8
  | 0 => []
  | m + 1 => Fr.upto F m ++ (F m).bytes.data.toList
def Fr.bytes (F : Nat → En) : ByteArray := ⟨(Fr.upto F 6).toArray⟩

theorem En.vals_length (e : En) : e.vals.length = 6 := rfl
theorem enCells_length (l : List En) : (enCells l).length = 6 * l.length := by
  induction l with
  | nil => rfl
  | cons e l ih =>
    show (e.vals ++ enCells l).length = _
    rw [List.length_append, ih, En.vals_length, List.length_cons]; omega
theorem frc_size (F : Nat → En) : (frc F).size = 36 := by
  show (enCells (Fr.list F)).toArray.size = 36
  rw [List.size_toArray, enCells_length]; rfl
theorem lnc_size (a b : En) : (lnc a b).size = 12 := by
  show (enCells [a, b]).toArray.size = 12
  rw [List.size_toArray, enCells_length]; rfl
theorem En.vals_one (e : En) : ∀ v ∈ e.vals, v.oneCell' = true := by
  intro v hv
  simp [En.vals] at hv
  rcases hv with rfl | rfl | rfl | rfl | rfl | rfl <;> rfl
theorem enCells_one (l : List En) : ∀ v ∈ enCells l, v.oneCell' = true := by
  intro v hv
  simp only [enCells, List.mem_flatMap] at hv
  obtain ⟨e, _, he⟩ := hv
  exact e.vals_one v he
theorem En.one (e : En) : e.vals.toArray.all (·.oneCell') = true := all_oneCell_toArray e.vals_one
theorem frc_one (F : Nat → En) : (frc F).all (·.oneCell') = true := all_oneCell_toArray (enCells_one _)
theorem lnc_one (a b : En) : (lnc a b).all (·.oneCell') = true := all_oneCell_toArray (enCells_one _)

theorem Fr.may_all (F : Nat → En) : Fr.may F = true ↔ ∀ m, m < 6 → (F m).may = true := by
  simp only [Fr.may, Fr.list, List.all_cons, List.all_nil, Bool.and_true, Bool.and_eq_true]
  constructor
  · rintro ⟨h0, h1, h2, h3, h4, h5⟩ m hm
    match m, hm with
    | 0, _ => exact h0
    | 1, _ => exact h1
    | 2, _ => exact h2
    | 3, _ => exact h3
    | 4, _ => exact h4
    | 5, _ => exact h5
  · intro h
    exact ⟨h 0 (by omega), h 1 (by omega), h 2 (by omega), h 3 (by omega), h 4 (by omega), h 5 (by omega)⟩

theorem frc_part (F : Nat → En) (x o : Nat) (hx : x < 6) (ho : o = 6 * x) : ((frc F).extract o (o + (F x).vals.length)).toList = (F x).vals := by
  subst ho
  match x, hx with
  | 0, _ => rfl
  | 1, _ => rfl
  | 2, _ => rfl
  | 3, _ => rfl
  | 4, _ => rfl
  | 5, _ => rfl

theorem size27 : (Try.prog.info? 33).map (·.size) = some 36 := by kernel_rfl
theorem size25 : (Try.prog.info? 31).map (·.size) = some 12 := by kernel_rfl
theorem size24 : (Try.prog.info? 30).map (·.size) = some 6 := by kernel_rfl

theorem ix27 (F : Nat → En) (i : Nat) (hi : i < 3) (w : World) :
    (Instr.index 33 (.agg (frc F)) (.int .i64 (i : Int))).run Try.prog w = .ok (.agg (lnc (F (2 * i)) (F (2 * i + 1)))) w := by
  obtain rfl | rfl | rfl : i = 0 ∨ i = 1 ∨ i = 2 := by omega
  all_goals kernel_rfl

theorem ix25 (F : Nat → En) (i j : Nat) (hj : j < 2) (w : World) :
    (Instr.index 31 (.agg (lnc (F (2 * i)) (F (2 * i + 1)))) (.int .i64 (j : Int))).run Try.prog w = .ok (.agg (F (2 * i + j)).vals.toArray) w := by
  obtain rfl | rfl : j = 0 ∨ j = 1 := by omega
  all_goals kernel_rfl

end Go.Proofs.Ytmbddjejbmjmfaa
