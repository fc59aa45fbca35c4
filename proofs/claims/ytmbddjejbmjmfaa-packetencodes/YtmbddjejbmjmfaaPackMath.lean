/-
  Plain facts: a number's bytes, the number of some bytes, and the fields of texts.
  No condition; nothing of the program is named here.
-/
import Derived.Test.YtmbddjejbmjmfaaHeld
import Derived.Laws.BitsAllLaws
namespace Go.Proofs.Ytmbddjejbmjmfaa
set_option maxRecDepth 10000
namespace Pack

def byteAt (n k : Nat) : UInt8 := UInt8.ofNat (n / 256 ^ k)
def putF (n k j : Nat) : UInt8 := byteAt n (k - 1 - j)
def putB (n k : Nat) : ByteArray := textOf k (putF n k)

theorem byteAt_toNat (n k : Nat) : (byteAt n k).toNat = n / 256 ^ k % 256 := by
  unfold byteAt; rw [UInt8.toNat_ofNat']
theorem shr_eq (n m : Nat) : (n : Int) / 2 ^ (8 * m) % 256 = ((byteAt n m).toNat : Int) := by
  rw [byteAt_toNat, Int.natCast_emod, Int.natCast_ediv, Int.natCast_pow]
  rw [Int.pow_mul]
  rfl
theorem shr_zero (n k : Nat) : ((n : Int) / 2 ^ (8 * k) == 0) = decide (n < 256 ^ k) := by
  have h : (n : Int) / 2 ^ (8 * k) = ((n / 256 ^ k : Nat) : Int) := by
    rw [Int.natCast_ediv, Int.natCast_pow, Int.pow_mul]; rfl
  rw [h, Bool.eq_iff_iff, beq_iff_eq, decide_eq_true_iff]
  constructor
  · intro e
    have e' : n / 256 ^ k = 0 := by omega
    rcases Nat.div_eq_zero_iff.1 e' with e2 | e2
    · exact absurd e2 (Nat.ne_of_gt (Nat.pow_pos (by decide)))
    · exact e2
  · intro e
    rw [Nat.div_eq_of_lt e]; rfl

def val (l : List UInt8) : Nat := l.foldl (fun a b => a * 256 + b.toNat) 0
theorem val_nil : val [] = 0 := rfl
theorem val_snoc (l : List UInt8) (b : UInt8) : val (l ++ [b]) = val l * 256 + b.toNat := by simp [val]
theorem val_take (l : List UInt8) (m : Nat) (h : m < l.length) : val (l.take (m + 1)) = val (l.take m) * 256 + l[m].toNat := by
  rw [List.take_succ_eq_append_getElem h, val_snoc]
theorem val_lt (l : List UInt8) : val l < 256 ^ l.length := by
  suffices h : ∀ (l : List UInt8) (a : Nat), l.foldl (fun a b => a * 256 + b.toNat) a < (a + 1) * 256 ^ l.length by
    have := h l 0; simpa [val] using this
  intro l
  induction l with
  | nil => intro a; simp
  | cons b l ih =>
    intro a
    have hb := b.toNat_lt
    have h1 := ih (a * 256 + b.toNat)
    have h2 : (a * 256 + b.toNat + 1) * 256 ^ l.length ≤ ((a + 1) * 256) * 256 ^ l.length := Nat.mul_le_mul_right _ (by omega)
    simp only [List.foldl_cons, List.length_cons]
    rw [Nat.pow_succ']
    rw [← Nat.mul_assoc]
    omega

theorem or_step (z b : Nat) (hz : z * 256 < 18446744073709551616) (hb : b < 256) :
    bits .or .u64 (IntKind.u64.wrap ((z : Int) * 256)) (IntKind.u64.wrap (b : Int)) = ((z * 256 + b : Nat) : Int) := by
  have h1 : IntKind.u64.wrap ((z : Int) * 256) = ((z * 256 : Nat) : Int) := by rw [IntKind.wrap_u64]; omega
  have h2 : IntKind.u64.wrap (b : Int) = (b : Int) := by rw [IntKind.wrap_u64]; omega
  rw [h1, h2, u64_or_nat _ _ hz (by omega)]
  have h3 := Nat.shiftLeft_add_eq_or_of_lt (i := 8) (b := b) (by simpa using hb) z
  rw [Nat.shiftLeft_eq] at h3
  rw [← h3]
theorem mul_step (z b : Nat) (hz : z * 256 + b < 18446744073709551616) :
    IntKind.u64.wrap (IntKind.u64.wrap (256 * (z : Int)) + IntKind.u64.wrap (b : Int)) = ((z * 256 + b : Nat) : Int) := by
  simp only [IntKind.wrap_u64]; omega
theorem pow_le (m : Nat) (h : m ≤ 8) : 256 ^ m ≤ 18446744073709551616 := by
  have := Nat.pow_le_pow_right (n := 256) (by decide) h
  simpa using this
theorem val_small (l : List UInt8) (h : l.length ≤ 7) : val l * 256 + 255 < 18446744073709551616 := by
  have h1 := val_lt l
  have h2 := pow_le (l.length + 1) (by omega)
  rw [Nat.pow_succ] at h2
  omega

def textF (s : ByteArray) (j : Nat) : UInt8 := if j = 0 then UInt8.ofNat s.size else at0 s (j - 1)
def textB (s : ByteArray) (k : Nat) : ByteArray := textOf (1 + k) (textF s)

theorem at0_eq (s : ByteArray) (j : Nat) (h : j < s.size) : at0 s j = s[j] := by
  have h' : j < s.data.toList.length := by rw [Array.length_toList]; exact h
  unfold at0
  rw [List.getD, List.getElem?_eq_getElem h']
  rfl
theorem at0_past (s : ByteArray) (j : Nat) (h : s.size ≤ j) : at0 s j = 0 := by
  have h' : s.data.toList.length ≤ j := by rw [Array.length_toList]; exact h
  unfold at0
  rw [List.getD, List.getElem?_eq_none h']
  rfl

end Pack

theorem Held.less {B n m : Nat} {f : Nat → UInt8} {w : World} (h : Held B n f w) (hm : m ≤ n) : Held B m f w :=
  ⟨h.1, fun j hj => h.2 j (Nat.lt_of_lt_of_le hj hm)⟩
theorem textOf_congr {n : Nat} {f g : Nat → UInt8} (h : ∀ j, j < n → f j = g j) : textOf n f = textOf n g := by
  unfold textOf
  congr 2
  apply List.map_congr_left
  intro j hj
  exact h j (List.mem_range.1 hj)

theorem held_row (w : World) (n : Nat) (f : Nat → UInt8) (T : TypeId) (Z : Array Value) (hZ : ∀ j, j < n → Z[j]? = some (.int .u8 ((f j).toNat : Int))) : Held w.heap.size n f (w.alloc (.cells Z T)) := by
  refine ⟨by simp, fun j hj => ?_⟩
  have hh := heap_alloc_new w (.cells Z T)
  refine ⟨?_, ?_⟩
  · unfold World.cell?
    simp only [hh]
    exact hZ j hj
  · unfold World.frozen?
    simp only [hh]
    simp

theorem held_new (w : World) (n : Nat) (T : TypeId) (Z : Array Value) (hZ : ∀ j, j < n → Z[j]? = some (.int .u8 0)) : Held w.heap.size n (fun _ => 0) (w.alloc (.cells Z T)) :=
  held_row w n _ T Z hZ

end Go.Proofs.Ytmbddjejbmjmfaa
