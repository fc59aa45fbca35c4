/-
  Plain facts on a row of bytes that a call has made itself: what it holds behind a store and a draw, and the text that it makes.
  No condition; nothing of the program is named here.
-/
import Derived.WalkKit
import Derived.Lib.ConvBytes
import Derived.Laws.BytesArg
namespace Go.Proofs.Ythkfolohhdafkaa
set_option maxRecDepth 10000
open Go.RowKit

def Held (B n : Nat) (f : Nat → UInt8) (w : World) : Prop :=
  B < w.heap.size ∧ ∀ j, j < n → w.cell? ⟨B, j, none⟩ = some (.int .u8 ((f j).toNat : Int)) ∧ w.frozen? ⟨B, j, none⟩ = false

def textOf (n : Nat) (f : Nat → UInt8) : ByteArray := ⟨((List.range n).map f).toArray⟩

theorem textOf_size (n : Nat) (f : Nat → UInt8) : (textOf n f).size = n := by
  show ((List.range n).map f).toArray.size = n
  simp
theorem textOf_data (n : Nat) (f : Nat → UInt8) : (textOf n f).data.toList = (List.range n).map f := rfl

def at0 (s : ByteArray) (j : Nat) : UInt8 := s.data.toList.getD j 0

theorem textOf_at0 (s : ByteArray) : textOf s.size (at0 s) = s := by
  have h : s.data = (textOf s.size (at0 s)).data := by
    apply Array.ext'
    rw [textOf_data]
    have hl : s.data.toList.length = s.size := by rw [Array.length_toList]; rfl
    apply List.ext_getElem
    · rw [hl]; simp
    · intro i h1 h2
      simp [at0, List.getD, List.getElem?_eq_getElem h1]
  exact (ByteArray.ext h).symm

theorem Held.drew {B n : Nat} {f : Nat → UInt8} {w : World} (h : Held B n f w) : Held B n f w.drew := h

theorem Held.set {B n k : Nat} {f : Nat → UInt8} {w : World} (h : Held B n f w) (hk : k < n) (v : UInt8) :
    Held B n (fun j => if j = k then v else f j) (w.setCell ⟨B, k, none⟩ (.int .u8 (v.toNat : Int))) := by
  refine ⟨by simpa using h.1, fun j hj => ?_⟩
  by_cases e : j = k
  · subst e
    refine ⟨?_, by simpa using (h.2 j hj).2⟩
    rw [World.cell?_setCell_same' w ⟨B, j, none⟩ _ (by rw [(h.2 j hj).1]; rfl)]; simp
  · refine ⟨?_, by simpa using (h.2 j hj).2⟩
    have hne : (⟨B, k, none⟩ : Addr) ≠ ⟨B, j, none⟩ := fun e2 => e (by cases e2; rfl)
    rw [World.cell?_setCell_other w ⟨B, k, none⟩ _ _ hne, (h.2 j hj).1]; simp [e]

theorem Held.below {B n : Nat} {f : Nat → UInt8} {w w' : World} (h : Held B n f w) (hb : Below w.heap.size w w') : Held B n f w' :=
  ⟨Nat.lt_of_lt_of_le h.1 hb.size, fun j hj => ⟨by rw [hb.cell (p := ⟨B, j, none⟩) h.1]; exact (h.2 j hj).1, by rw [hb.frozen (p := ⟨B, j, none⟩) h.1]; exact (h.2 j hj).2⟩⟩

theorem strOf_text (n : Nat) (f : Nat → UInt8) : strOfNums ((List.range n).map fun j => ((f j).toNat : Int)) = textOf n f := by
  unfold strOfNums textOf
  simp [Function.comp_def]

theorem Held.conv {P : Program} {B n cap : Nat} {f : Nat → UInt8} {w : World} (h : Held B n f w) (src e dst : TypeId) (hs : P.underlying src = some (.slice e)) (he : P.underlying e = some (.int .u8)) (hd : P.underlying dst = some .string) :
    (convert src dst (.slice (some ⟨B, 0, none⟩) n cap)).run P w = .ok (.string (textOf n f)) w := by
  rw [← strOf_text]
  refine run_convert_bytes_arg w src e hs he B 0 n cap _ (by simp) ?_ dst hd
  intro i hi
  rw [Nat.zero_add, (h.2 i hi).1]
  simp [List.getD, hi]

theorem held_bytes (w : World) (e : TypeId) (s : ByteArray) : Held w.heap.size s.size (at0 s) (Lib.bytesWorld w e s) := by
  refine ⟨by rw [Lib.bytesWorld_size]; omega, fun j hj => ⟨Lib.bytesWorld_cell w e s j hj, ?_⟩⟩
  unfold World.frozen?
  rw [Lib.bytesWorld_at_new]
  have : s.size ≤ (Lib.bytesCells w e s).size := by
    show s.data.size ≤ _
    simp [Lib.bytesCells]
  simp
  omega

theorem below_bytes (w : World) (e : TypeId) (s : ByteArray) : Below w.heap.size w (Lib.bytesWorld w e s) :=
  ⟨rfl, rfl, rfl, by rw [Lib.bytesWorld_size]; omega, fun k hk => Lib.bytesWorld_at_old w e s k hk⟩

end Go.Proofs.Ythkfolohhdafkaa
