/-
  Strings as lists of bytes: taken, indexed, cut, compared, put together.
  No condition.
-/
import Derived.Test.YtiepdfngjfhadaaDoorLw
import Derived.Test.YtiepdfngjfhadaaDoorDg
import Derived.Test.YtiepdfngjfhadaaDoorHd
import Derived.Lib.Strings
import Derived.Lib.Walk
namespace Go.Proofs.YtiepdfngjfhadaaDoor
set_option maxRecDepth 10000
open Go.RowKit Go.Sort
set_option linter.unusedVariables false
set_option linter.unusedSimpArgs false

def strB (l : List UInt8) : ByteArray := ⟨l.toArray⟩
theorem strB_list (l : List UInt8) : (strB l).data.toList = l := rfl
theorem strB_bL (c : ByteArray) : strB (bL c) = c := by cases c; rfl
theorem bL_strB (l : List UInt8) : bL (strB l) = l := rfl
theorem strB_size (l : List UInt8) : (strB l).size = l.length := by show l.toArray.size = _; simp
theorem bL_len (c : ByteArray) : (bL c).length = c.size := by show c.data.toList.length = _; rw [Array.length_toList]; rfl
theorem bL_get {c : ByteArray} {i : Nat} {x : UInt8} (h : (bL c)[i]? = some x) : i < c.size ∧ ∀ h : i < c.size, c[i] = x := by
  have hi := (List.getElem?_eq_some_iff.1 h).1
  have hs : (bL c).length = c.size := by show c.data.toList.length = _; rw [Array.length_toList]; rfl
  rw [hs] at hi
  refine ⟨hi, fun h2 => ?_⟩
  have := (List.getElem?_eq_some_iff.1 h).2
  rw [← this]
  show c.data[i] = c.data.toList[i]
  rw [Array.getElem_toList]
theorem str_ix {c : ByteArray} {j : Nat} {x : UInt8} (hx : (bL c)[j]? = some x) (W : World) : (Instr.index 9 (.string c) (.int .i64 (j : Int))).run Tryd.prog W = .ok (.int .u8 (x.toNat : Int)) W := by
  obtain ⟨g1, g2⟩ := bL_get hx
  rw [run_index_string W 9 c .i64 (j : Int) Tryd.underlying9, dif_pos (show (0 : Int) ≤ (j : Int) ∧ (j : Int) < ((c.size : Nat) : Int) by omega)]
  have e : c[((j : Int)).toNat]'(by omega) = x := g2 g1
  rw [e]
theorem str_take (c : ByteArray) (j : Nat) : c.extract 0 j = strB ((bL c).take j) := by
  apply bL_inj
  show (c.extract 0 j).data.toList = (bL c).take j
  rw [Lib.extract_data, Nat.sub_zero, List.drop_zero]
  rfl
theorem str_drop (c : ByteArray) (j : Nat) : c.extract j c.size = strB ((bL c).drop j) := by
  apply bL_inj
  show (c.extract j c.size).data.toList = (bL c).drop j
  rw [Lib.extract_data]
  refine List.take_of_length_le ?_
  rw [List.length_drop]
  show (bL c).length - j ≤ _
  rw [bL_len]
  exact Nat.le_refl _
theorem sl_take (c : ByteArray) (j : Nat) (hj : j ≤ c.size) (q : IntKind) (W : World) : (Instr.slice 9 (.string c) none (some (.int q (j : Int))) none).run Tryd.prog W = .ok (.string (strB ((bL c).take j))) W := by
  rw [run_slice_string_h W 9 c Tryd.underlying9 q (j : Int) (by omega) (by omega), show ((j : Int)).toNat = j by omega, str_take]
theorem sl_drop (c : ByteArray) (j : Nat) (hj : j ≤ c.size) (q : IntKind) (i : Int) (hi : i = (j : Int)) (W : World) : (Instr.slice 9 (.string c) (some (.int q i)) none none).run Tryd.prog W = .ok (.string (strB ((bL c).drop j))) W := by
  subst hi
  rw [run_slice_string_l W 9 c Tryd.underlying9 q (j : Int) (by omega) (by omega), show ((j : Int)).toNat = j by omega, str_drop]
theorem strB_of {c : ByteArray} {l : List UInt8} (h : bL c = l) : c = strB l := by rw [← h, strB_bL]
theorem same_L (a b : ByteArray) (c : Bool) (h : decide (bL a = bL b) = c) : (a.toList == b.toList) = c := by
  rw [ByteArray.toList_eq, ByteArray.toList_eq]
  subst h
  by_cases h : bL a = bL b
  · rw [decide_eq_true h]
    show (bL a == bL b) = true
    rw [h]
    simp
  · rw [decide_eq_false h]
    show (bL a == bL b) = false
    simpa using h
theorem same_lit (a : ByteArray) (l : List UInt8) (c : Bool) (h : decide (bL a = l) = c) : (a.toList == l) = c := by
  have := same_L a (strB l) c h
  rw [ByteArray.toList_eq (strB l)] at this
  exact this
theorem ne_L {a b : ByteArray} {c : Bool} (h : (a.toList == b.toList) = c) : (a.toList != b.toList) = !c := by unfold bne; rw [h]
theorem strB_append (a b : List UInt8) : strB a ++ strB b = strB (a ++ b) := ByteArray.mk_append_mk _ _
theorem sum_B (a b : List UInt8) (h : a.length + b.length ≤ 9223372036854775807) (w : World) : (Op.stringOp .add (strB a) (strB b)).run Tryd.prog w = .ok (.string (strB (a ++ b))) w := by
  rw [run_string_add_sum w _ _ (by rw [strB_size, strB_size]; omega), strB_append]
theorem no_snoc {x b : UInt8} {l : List UInt8} {j : Nat} (hn : x ∉ l.take j) (h : l[j]? = some b) (hb : b ≠ x) : x ∉ l.take (j + 1) := by
  rw [List.take_add_one, h]
  intro hm
  rcases List.mem_append.1 hm with hm | hm
  · exact hn hm
  · simp at hm
    exact hb hm.symm
theorem numL_take {l : List UInt8} {j : Nat} {b : UInt8} (h : l[j]? = some b) : numL (l.take (j + 1)) = 10 * numL (l.take j) + (b.toNat - 48) := by
  rw [List.take_add_one, h]
  exact numL_snoc _ _
theorem drop_cons {l : List UInt8} {j : Nat} {x : UInt8} (h : l[j]? = some x) : l.drop j = x :: l.drop (j + 1) := by
  obtain ⟨h1, h2⟩ := List.getElem?_eq_some_iff.1 h
  rw [List.drop_eq_getElem_cons h1, h2]

end Go.Proofs.YtiepdfngjfhadaaDoor
