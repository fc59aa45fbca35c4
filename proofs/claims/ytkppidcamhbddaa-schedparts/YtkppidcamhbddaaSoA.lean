/-
  A list of uint64 in a row that may be written: what its cells hold, two of them changed about; the rounds of the library's sort, as plain functions have them.
  No condition.
-/
import Derived.Test.YtkppidcamhbddaaBk
import Derived.WalkKit
import Derived.BigGuard
import Derived.BigCall
import Derived.CellFam
import Derived.Deep.Draws
import Derived.Deep.QuietTactic
import Derived.BigQuiet
import Derived.Sort.LotA
import Derived.Sort.LotB
import Derived.Sort.LotC
import Derived.Sort.LotD3
namespace Go.Proofs.Ytkppidcamhbddaa
set_option maxRecDepth 10000
open Go.RowKit

/- The row: d from place o on, R's first part ahead of it, its second one behind. -/
def Sx (g o : Nat) (T : TypeId) (R : List Value × List Value) (d : Array Int) (w : World) : Prop := R.1.length = o ∧ Blk g (R.1 ++ (d.toList.map (Value.int .u64) ++ R.2)).toArray T w
theorem Sx.lt {g o : Nat} {T : TypeId} {R : List Value × List Value} {d : Array Int} {w : World} (h : Sx g o T R d w) : g < w.heap.size := Blk.lt h.2
theorem row_get (d : Array Int) (A R : List Value) {t : Nat} (ht : t < d.size) : (A ++ (d.toList.map (Value.int .u64) ++ R)).toArray[A.length + t]? = some (.int .u64 d[t]!) := by
  rw [List.getElem?_toArray, List.getElem?_append_right (by omega), Nat.add_sub_cancel_left, List.getElem?_append_left (by simpa using ht), List.getElem?_map, Array.getElem?_toList, Array.getElem?_eq_getElem ht, getElem!_pos d t ht]
  rfl
theorem Sx.cell {g o : Nat} {T : TypeId} {R : List Value × List Value} {d : Array Int} {w : World} (h : Sx g o T R d w) (t : Nat) (ht : t < d.size) : w.cell? ⟨g, o + t, none⟩ = some (.int .u64 d[t]!) := by
  obtain ⟨rfl, h⟩ := h
  exact Blk.cell h _ _ (row_get d R.1 R.2 ht)
theorem Sx.free {g o : Nat} {T : TypeId} {R : List Value × List Value} {d : Array Int} {w : World} (h : Sx g o T R d w) (t : Nat) : w.frozen? ⟨g, t, none⟩ = false := Blk.free h.2 t
theorem Sx.kp {g o : Nat} {T : TypeId} {R : List Value × List Value} {d : Array Int} {S : List Nat} {w w' : World} (h : Sx g o T R d w) (k : Kp S w w') (hS : g ∉ S) : Sx g o T R d w' := ⟨h.1, Blk.kp h.2 k hS⟩
theorem Sx.draws {g o : Nat} {T : TypeId} {R : List Value × List Value} {d : Array Int} {w : World} (h : Sx g o T R d w) (q : Nat) : Sx g o T R d (w.drewN q) := h
theorem row_set (d : Array Int) (A R : List Value) {t : Nat} (ht : t < d.size) (x : Int) : (A ++ (d.toList.map (Value.int .u64) ++ R)).toArray.setIfInBounds (A.length + t) (.int .u64 x) = (A ++ ((d.setIfInBounds t x).toList.map (Value.int .u64) ++ R)).toArray := by
  rw [List.setIfInBounds_toArray, List.set_append_right _ _ (by omega), Nat.add_sub_cancel_left, List.set_append_left _ _ (by simpa using ht), Array.toList_setIfInBounds, List.map_set]
theorem Sx.set {g o : Nat} {T : TypeId} {R : List Value × List Value} {d : Array Int} {w : World} (h : Sx g o T R d w) {t : Nat} (ht : t < d.size) (x : Int) : Sx g o T R (d.setIfInBounds t x) (w.setCell ⟨g, o + t, none⟩ (.int .u64 x)) := by
  obtain ⟨rfl, h⟩ := h
  have := Blk.set h (R.1.length + t) (.int .u64 x)
  rw [row_set d R.1 R.2 ht] at this
  exact ⟨rfl, this⟩
theorem kp_drewN (S : List Nat) (w : World) (q : Nat) : Kp S w (w.drewN q) := ⟨rfl, rfl, rfl, Nat.le_refl _, fun _ _ _ => rfl⟩
/- The world behind 'x[i], x[j] = x[j], x[i]'. -/
def swW (g o : Nat) (d : Array Int) (i j q : Nat) (w : World) : World := ((w.drewN q).setCell ⟨g, o + i, none⟩ (.int .u64 d[j]!)).setCell ⟨g, o + j, none⟩ (.int .u64 d[i]!)
theorem Sx.swap {g o : Nat} {T : TypeId} {R : List Value × List Value} {d : Array Int} {w0 w : World} (h : Sx g o T R d w) (k : Kp [g] w0 w) {i j : Nat} (hi : i < d.size) (hj : j < d.size) (q : Nat) :
    Sx g o T R (Sort.swp d i j) (swW g o d i j q w) ∧ Kp [g] w0 (swW g o d i j q w) :=
  ⟨((h.draws q).set hi _).set (by simpa using hj) _, ((k.trans (kp_drewN _ w q)).trans (Kp.setCell g _ _ _ (by simp))).trans (Kp.setCell g _ _ _ (by simp))⟩

/- The numbers of a row, under a letter: what its cells hold. -/
theorem Sx.fam {g o : Nat} {T : TypeId} {R : List Value × List Value} {d : Array Int} {w : World} (h : Sx g o T R d w) {n : Nat} (hn : d.size = n) : ∃ G : Nat → Int, (∀ t, G t = d[t]!) ∧ (∀ t, t < n → w.cell? ⟨g, o + t, none⟩ = some (.int .u64 (G t))) ∧ ∀ t, t < n → w.frozen? ⟨g, o + t, none⟩ = false :=
  ⟨fun t => d[t]!, fun _ => rfl, fun t ht => h.cell t (by omega), fun t _ => h.free _⟩

section
variable {α : Type} [Inhabited α] (lt : α → α → Bool)
open Go.Sort (swp insInner insOuter siftDown heapBuild heapPop reverseLoop scanUp scanDown partLoop partEqLoop scanSorted shiftDown shiftUp partialIns)

theorem insI_go (a j : Nat) (d : Array α) (hj : a < j) (hl : lt d[j]! d[j - 1]! = true) : insInner lt a j d = insInner lt a (j - 1) (swp d j (j - 1)) := by
  obtain ⟨j, rfl⟩ : ∃ m, j = m + 1 := ⟨j - 1, by omega⟩
  rw [Nat.add_sub_cancel] at *
  rw [insInner, if_pos (by simp [hj, hl])]
theorem insI_stop (a j : Nat) (d : Array α) (h : j ≤ a ∨ lt d[j]! d[j - 1]! = false) : insInner lt a j d = d := by
  cases j with
  | zero => rfl
  | succ j =>
    rw [Nat.add_sub_cancel] at h
    rw [insInner, if_neg]
    rcases h with h | h
    · simp; omega
    · simp [h]
theorem insO_go (a b i : Nat) (d : Array α) (h : i < b) : insOuter lt a b i d = insOuter lt a b (i + 1) (insInner lt a i d) := by rw [insOuter, if_pos h]
theorem insO_stop (a b i : Nat) (d : Array α) (h : ¬ i < b) : insOuter lt a b i d = d := by rw [insOuter, if_neg h]

/- The child that is gone down to. -/
def kidS (hi F root : Nat) (d : Array α) : Nat := if 2 * root + 2 < hi ∧ lt d[F + (2 * root + 1)]! d[F + (2 * root + 2)]! = true then 2 * root + 2 else 2 * root + 1
theorem sift_end (hi F root : Nat) (d : Array α) (h : hi ≤ 2 * root + 1) : siftDown lt hi F root d = d := by rw [siftDown, dif_pos h]
theorem sift_stop (hi F root : Nat) (d : Array α) (h0 : 2 * root + 1 < hi) (h : lt d[F + root]! d[F + kidS lt hi F root d]! = false) : siftDown lt hi F root d = d := by
  rw [siftDown, dif_neg (by omega)]
  unfold kidS at h
  by_cases h1 : 2 * root + 2 < hi ∧ lt d[F + (2 * root + 1)]! d[F + (2 * root + 2)]! = true
  · rw [if_pos h1] at h
    rw [if_pos (by simpa [Nat.add_assoc] using h1), if_pos (by simp [h])]
  · rw [if_neg h1] at h
    rw [if_neg (by simpa [Nat.add_assoc] using h1), if_pos (by simp [h])]
theorem sift_go (hi F root : Nat) (d : Array α) (h0 : 2 * root + 1 < hi) (h : lt d[F + root]! d[F + kidS lt hi F root d]! = true) :
    siftDown lt hi F root d = siftDown lt hi F (kidS lt hi F root d) (swp d (F + root) (F + kidS lt hi F root d)) := by
  rw [siftDown, dif_neg (by omega)]
  unfold kidS at h ⊢
  by_cases h1 : 2 * root + 2 < hi ∧ lt d[F + (2 * root + 1)]! d[F + (2 * root + 2)]! = true
  · rw [if_pos h1] at h ⊢
    rw [if_pos (by simpa [Nat.add_assoc] using h1), if_neg (by simp [h]), dif_pos h1.1]
  · rw [if_neg h1] at h ⊢
    rw [if_neg (by simpa [Nat.add_assoc] using h1), if_neg (by simp [h])]
theorem kid_lt (hi F root : Nat) (d : Array α) (h0 : 2 * root + 1 < hi) : kidS lt hi F root d < hi ∧ root < kidS lt hi F root d := by
  unfold kidS
  split <;> omega
theorem sift_size (hi F : Nat) : ∀ (n root : Nat) (d : Array α), hi - root ≤ n → (siftDown lt hi F root d).size = d.size
  | 0, root, d, h => by rw [sift_end lt hi F root d (by omega)]
  | n + 1, root, d, h => by
    by_cases h0 : 2 * root + 1 < hi
    · cases hl : lt d[F + root]! d[F + kidS lt hi F root d]! with
      | false => rw [sift_stop lt hi F root d h0 hl]
      | true =>
        have := kid_lt lt hi F root d h0
        rw [sift_go lt hi F root d h0 hl, sift_size hi F n _ _ (by omega), Go.Sort.size_swp]
    · rw [sift_end lt hi F root d (by omega)]

theorem rev_go (i j : Nat) (d : Array α) (h : i < j) : reverseLoop i j d = reverseLoop (i + 1) (j - 1) (swp d i j) := by rw [reverseLoop, if_pos h]
theorem rev_stop (i j : Nat) (d : Array α) (h : ¬ i < j) : reverseLoop i j d = d := by rw [reverseLoop, if_neg h]

theorem up_go (p : α → Bool) (d : Array α) (j i : Nat) (h : i ≤ j) (hp : p d[i]! = true) : scanUp p d j i = scanUp p d j (i + 1) := by
  rw [scanUp, if_pos (by simp [h, hp])]
theorem up_end (p : α → Bool) (d : Array α) (j i : Nat) (h : ¬ i ≤ j ∨ p d[i]! = false) : scanUp p d j i = i := by
  rw [scanUp, if_neg]
  rcases h with h | h
  · simp [h]
  · simp [h]
theorem dn_go (p : α → Bool) (d : Array α) (i j : Nat) (h : i ≤ j) (h0 : 0 < j) (hp : p d[j]! = true) : scanDown p d i j = scanDown p d i (j - 1) := by
  obtain ⟨j, rfl⟩ : ∃ m, j = m + 1 := ⟨j - 1, by omega⟩
  rw [Nat.add_sub_cancel, scanDown, if_pos (by simp [h, hp])]
theorem dn_end (p : α → Bool) (d : Array α) (i j : Nat) (h : ¬ i ≤ j ∨ p d[j]! = false) : scanDown p d i j = j := by
  cases j with
  | zero => rfl
  | succ j =>
    rw [scanDown, if_neg]
    rcases h with h | h
    · simp [h]
    · simp [h]

theorem srt_go (d : Array α) (b i : Nat) (h : i < b) (hl : lt d[i]! d[i - 1]! = false) : scanSorted lt d b i = scanSorted lt d b (i + 1) := by
  rw [scanSorted, if_pos (by simp [h, hl])]
theorem srt_stop (d : Array α) (b i : Nat) (h : ¬ i < b ∨ lt d[i]! d[i - 1]! = true) : scanSorted lt d b i = i := by
  rw [scanSorted, if_neg]
  rcases h with h | h
  · simp [h]
  · simp [h]
theorem sdn_go (j : Nat) (d : Array α) (hj : 1 ≤ j) (hl : lt d[j]! d[j - 1]! = true) : shiftDown lt j d = shiftDown lt (j - 1) (swp d j (j - 1)) := by
  obtain ⟨j, rfl⟩ : ∃ m, j = m + 1 := ⟨j - 1, by omega⟩
  rw [Nat.add_sub_cancel] at *
  rw [shiftDown, if_neg (by simp [hl])]
theorem sdn_stop (j : Nat) (d : Array α) (h : j = 0 ∨ lt d[j]! d[j - 1]! = false) : shiftDown lt j d = d := by
  cases j with
  | zero => rfl
  | succ j =>
    rw [Nat.add_sub_cancel] at h
    rw [shiftDown, if_pos]
    rcases h with h | h
    · cases h
    · simp [h]
theorem sup_go (b j : Nat) (d : Array α) (hj : j < b) (hl : lt d[j]! d[j - 1]! = true) : shiftUp lt b j d = shiftUp lt b (j + 1) (swp d j (j - 1)) := by
  rw [shiftUp, if_pos hj, if_neg (by simp [hl])]
theorem sup_stop (b j : Nat) (d : Array α) (h : ¬ j < b ∨ lt d[j]! d[j - 1]! = false) : shiftUp lt b j d = d := by
  rw [shiftUp]
  by_cases hj : j < b
  · rw [if_pos hj, if_pos]
    rcases h with h | h
    · exact absurd hj h
    · simp [h]
  · rw [if_neg hj]
theorem ins_size (a : Nat) : ∀ (j : Nat) (d : Array α), (insInner lt a j d).size = d.size
  | 0, d => rfl
  | j + 1, d => by
    rw [insInner]
    split
    · rw [ins_size a j, Go.Sort.size_swp]
    · rfl
end

end Go.Proofs.Ytkppidcamhbddaa
