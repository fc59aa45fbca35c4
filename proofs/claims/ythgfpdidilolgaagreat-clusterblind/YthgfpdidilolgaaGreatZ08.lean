/-
  Of the texts beneath these laws, in their order: PackAll.
  Each theorem says its own conditions.
-/
import Derived.WalkKit
import Derived.Lib.ConvBytes
import Derived.Laws.BytesArg
import Derived.Laws.BitsAllLaws
import Derived.Test.YthgfpdidilolgaaGreatProg
import Derived.Below
import Derived.OwnWalk
import Derived.Laws.MakeOwn
import Derived.Lib.BufferWrite
import Derived.Lib.UnsafeStr
import Derived.Deep.QuietTactic
import Derived.BigQuiet
namespace Go.Proofs.YthgfpdidilolgaaGreat.Eld
set_option maxRecDepth 10000
open Go.RowKit
def Held (B n : Nat) (f : Nat → UInt8) (w : World) : Prop :=
 B < w.heap.size ∧ ∀ j, j < n → w.cell? ⟨B, j, none⟩ = some (.int .u8 ((f j).toNat : Int)) ∧ w.frozen? ⟨B, j, none⟩ = false
def textOf (n : Nat) (f : Nat → UInt8) : ByteArray := ⟨((List.range n).map f).toArray⟩
theorem textOf_size (n : Nat) (f : Nat → UInt8) : (textOf n f).size = n := by
 show ((List.range n).map f).toArray.size = n
 simp
theorem textOf_data (n : Nat) (f : Nat → UInt8) : (textOf n f).data.toList = (List.range n).map f := rfl
def at0 (s : ByteArray) (j : Nat) : UInt8 := s.data.toList.getD j 0
theorem textOf_at0 (s : ByteArray) : textOf s.size (at0 s) = s := by
 have h : s.data = (textOf s.size (at0 s)).data := by
  apply Array.ext'
  rw [textOf_data]
  have hl : s.data.toList.length = s.size := by rw [Array.length_toList]; rfl
  apply List.ext_getElem
  ·rw [hl]; simp
  ·intro i h1 h2
   simp [at0, List.getD, List.getElem?_eq_getElem h1]
 exact (ByteArray.ext h).symm
theorem Held.set {B n k : Nat} {f : Nat → UInt8} {w : World} (h : Held B n f w) (hk : k < n) (v : UInt8) :
  Held B n (fun j => if j = k then v else f j) (w.setCell ⟨B, k, none⟩ (.int .u8 (v.toNat : Int))) := by
 refine ⟨by simpa using h.1, fun j hj => ?_⟩
 by_cases e : j = k
 ·subst e
  refine ⟨?_, by simpa using (h.2 j hj).2⟩
  rw [World.cell?_setCell_same' w ⟨B, j, none⟩ _ (by rw [(h.2 j hj).1]; rfl)]; simp
 ·refine ⟨?_, by simpa using (h.2 j hj).2⟩
  have hne : (⟨B, k, none⟩ : Addr) ≠ ⟨B, j, none⟩ := fun e2 => e (by cases e2; rfl)
  rw [World.cell?_setCell_other w ⟨B, k, none⟩ _ _ hne, (h.2 j hj).1]; simp [e]
theorem strOf_text (n : Nat) (f : Nat → UInt8) : strOfNums ((List.range n).map fun j => ((f j).toNat : Int)) = textOf n f := by
 unfold strOfNums textOf
 simp [Function.comp_def]
theorem Held.conv {P : Program} {B n cap : Nat} {f : Nat → UInt8} {w : World} (h : Held B n f w) (src e dst : TypeId) (hs : P.underlying src = some (.slice e)) (he : P.underlying e = some (.int .u8)) (hd : P.underlying dst = some .string) :
  (convert src dst (.slice (some ⟨B, 0, none⟩) n cap)).run P w = .ok (.string (textOf n f)) w := by
 rw [← strOf_text]
 refine run_convert_bytes_arg w src e hs he B 0 n cap _ (by simp) ?_ dst hd
 intro i hi
 rw [Nat.zero_add, (h.2 i hi).1]
 simp [List.getD, hi]
end Go.Proofs.YthgfpdidilolgaaGreat.Eld
namespace Go.Proofs.YthgfpdidilolgaaGreat.Eld
set_option maxRecDepth 10000
namespace Pack
def byteAt (n k : Nat) : UInt8 := UInt8.ofNat (n / 256 ^ k)
def putF (n k j : Nat) : UInt8 := byteAt n (k - 1 - j)
def putB (n k : Nat) : ByteArray := textOf k (putF n k)
theorem byteAt_toNat (n k : Nat) : (byteAt n k).toNat = n / 256 ^ k % 256 := by
 unfold byteAt; rw [UInt8.toNat_ofNat']
theorem shr_eq (n m : Nat) : (n : Int) / 2 ^ (8 * m) % 256 = ((byteAt n m).toNat : Int) := by
 rw [byteAt_toNat, Int.natCast_emod, Int.natCast_ediv, Int.natCast_pow]
 rw [Int.pow_mul]
 rfl
theorem shr_zero (n k : Nat) : ((n : Int) / 2 ^ (8 * k) == 0) = decide (n < 256 ^ k) := by
 have h : (n : Int) / 2 ^ (8 * k) = ((n / 256 ^ k : Nat) : Int) := by
  rw [Int.natCast_ediv, Int.natCast_pow, Int.pow_mul]; rfl
 rw [h, Bool.eq_iff_iff, beq_iff_eq, decide_eq_true_iff]
 constructor
 ·intro e
  have e' : n / 256 ^ k = 0 := by omega
  rcases Nat.div_eq_zero_iff.1 e' with e2 | e2
  ·exact absurd e2 (Nat.ne_of_gt (Nat.pow_pos (by decide)))
  ·exact e2
 ·intro e
  rw [Nat.div_eq_of_lt e]; rfl
def val (l : List UInt8) : Nat := l.foldl (fun a b => a * 256 + b.toNat) 0
theorem val_snoc (l : List UInt8) (b : UInt8) : val (l ++ [b]) = val l * 256 + b.toNat := by simp [val]
theorem val_take (l : List UInt8) (m : Nat) (h : m < l.length) : val (l.take (m + 1)) = val (l.take m) * 256 + l[m].toNat := by
 rw [List.take_succ_eq_append_getElem h, val_snoc]
theorem val_lt (l : List UInt8) : val l < 256 ^ l.length := by
 suffices h : ∀ (l : List UInt8) (a : Nat), l.foldl (fun a b => a * 256 + b.toNat) a < (a + 1) * 256 ^ l.length by
  have := h l 0; simpa [val] using this
 intro l
 induction l with
 | nil => intro a; simp
 | cons b l ih =>
  intro a
  have hb := b.toNat_lt
  have h1 := ih (a * 256 + b.toNat)
  have h2 : (a * 256 + b.toNat + 1) * 256 ^ l.length ≤ ((a + 1) * 256) * 256 ^ l.length := Nat.mul_le_mul_right _ (by omega)
  simp only [List.foldl_cons, List.length_cons]
  rw [Nat.pow_succ']
  rw [← Nat.mul_assoc]
  omega
theorem or_step (z b : Nat) (hz : z * 256 < 18446744073709551616) (hb : b < 256) :
  bits .or .u64 (IntKind.u64.wrap ((z : Int) * 256)) (IntKind.u64.wrap (b : Int)) = ((z * 256 + b : Nat) : Int) := by
 have h1 : IntKind.u64.wrap ((z : Int) * 256) = ((z * 256 : Nat) : Int) := by rw [IntKind.wrap_u64]; omega
 have h2 : IntKind.u64.wrap (b : Int) = (b : Int) := by rw [IntKind.wrap_u64]; omega
 rw [h1, h2, u64_or_nat _ _ hz (by omega)]
 have h3 := Nat.shiftLeft_add_eq_or_of_lt (i := 8) (b := b) (by simpa using hb) z
 rw [Nat.shiftLeft_eq] at h3
 rw [← h3]
theorem pow_le (m : Nat) (h : m ≤ 8) : 256 ^ m ≤ 18446744073709551616 := by
 have := Nat.pow_le_pow_right (n := 256) (by decide) h
 simpa using this
theorem val_small (l : List UInt8) (h : l.length ≤ 7) : val l * 256 + 255 < 18446744073709551616 := by
 have h1 := val_lt l
 have h2 := pow_le (l.length + 1) (by omega)
 rw [Nat.pow_succ] at h2
 omega
def textF (s : ByteArray) (j : Nat) : UInt8 := if j = 0 then UInt8.ofNat s.size else at0 s (j - 1)
def textB (s : ByteArray) (k : Nat) : ByteArray := textOf (1 + k) (textF s)
theorem at0_eq (s : ByteArray) (j : Nat) (h : j < s.size) : at0 s j = s[j] := by
 have h' : j < s.data.toList.length := by rw [Array.length_toList]; exact h
 unfold at0
 rw [List.getD, List.getElem?_eq_getElem h']
 rfl
theorem at0_past (s : ByteArray) (j : Nat) (h : s.size ≤ j) : at0 s j = 0 := by
 have h' : s.data.toList.length ≤ j := by rw [Array.length_toList]; exact h
 unfold at0
 rw [List.getD, List.getElem?_eq_none h']
 rfl
end Pack
theorem Held.less {B n m : Nat} {f : Nat → UInt8} {w : World} (h : Held B n f w) (hm : m ≤ n) : Held B m f w :=
 ⟨h.1, fun j hj => h.2 j (Nat.lt_of_lt_of_le hj hm)⟩
theorem textOf_congr {n : Nat} {f g : Nat → UInt8} (h : ∀ j, j < n → f j = g j) : textOf n f = textOf n g := by
 unfold textOf
 congr 2
 apply List.map_congr_left
 intro j hj
 exact h j (List.mem_range.1 hj)
theorem held_row (w : World) (n : Nat) (f : Nat → UInt8) (T : TypeId) (Z : Array Value) (hZ : ∀ j, j < n → Z[j]? = some (.int .u8 ((f j).toNat : Int))) : Held w.heap.size n f (w.alloc (.cells Z T)) := by
 refine ⟨by simp, fun j hj => ?_⟩
 have hh := heap_alloc_new w (.cells Z T)
 refine ⟨?_, ?_⟩
 ·unfold World.cell?
  simp only [hh]
  exact hZ j hj
 ·unfold World.frozen?
  simp only [hh]
  simp
theorem held_new (w : World) (n : Nat) (T : TypeId) (Z : Array Value) (hZ : ∀ j, j < n → Z[j]? = some (.int .u8 0)) : Held w.heap.size n (fun _ => 0) (w.alloc (.cells Z T)) :=
 held_row w n _ T Z hZ
end Go.Proofs.YthgfpdidilolgaaGreat.Eld
namespace Go.Proofs.YthgfpdidilolgaaGreat.Eld
set_option maxRecDepth 10000
namespace Pack
def digits (k n : Nat) : List UInt8 := (List.range k).map (putF n k)
theorem putB_data (n k : Nat) : (putB n k).data.toList = digits k n := rfl
theorem putB_size (n k : Nat) : (putB n k).size = k := textOf_size _ _
theorem textB_size (s : ByteArray) (k : Nat) : (textB s k).size = 1 + k := textOf_size _ _
theorem digits_length (k n : Nat) : (digits k n).length = k := by simp [digits]
theorem digits_succ (k n : Nat) : digits (k + 1) n = byteAt n k :: digits k n := by
 unfold digits
 rw [List.range_succ_eq_map, List.map_cons, List.map_map]
 congr 1
 apply List.map_congr_left
 intro j _
 show byteAt n (k + 1 - 1 - (j + 1)) = byteAt n (k - 1 - j)
 congr 1; omega
theorem val_cons (b : UInt8) (l : List UInt8) : val (b :: l) = b.toNat * 256 ^ l.length + val l := by
 suffices h : ∀ (l : List UInt8) (a : Nat), l.foldl (fun a b => a * 256 + b.toNat) a = a * 256 ^ l.length + val l by
  have := h l b.toNat
  unfold val at this ⊢
  simpa using this
 intro l
 induction l with
 | nil => intro a; simp [val]
 | cons c l ih =>
  intro a
  have h1 := ih (a * 256 + c.toNat)
  have h2 := ih c.toNat
  unfold val at h1 h2 ⊢
  simp only [List.foldl_cons, List.length_cons, Nat.zero_mul, Nat.zero_add] at h1 h2 ⊢
  rw [h1, h2, Nat.pow_succ', Nat.add_mul, Nat.mul_assoc]
  omega
theorem mod_succ (n k : Nat) : n % 256 ^ (k + 1) = n / 256 ^ k % 256 * 256 ^ k + n % 256 ^ k := by
 rw [Nat.mod_pow_succ, Nat.mul_comm, Nat.add_comm]
theorem val_digits (k n : Nat) : val (digits k n) = n % 256 ^ k := by
 induction k with
 | zero => simp [digits, val, Nat.mod_one]
 | succ k ih => rw [digits_succ, val_cons, digits_length, ih, byteAt_toNat, mod_succ]
theorem digits_inj (k n m : Nat) (h : digits k n = digits k m) : n % 256 ^ k = m % 256 ^ k := by
 rw [← val_digits, ← val_digits, h]
theorem extract_list (s : ByteArray) (a b : Nat) : (s.extract a b).data.toList = (s.data.toList.drop a).take (b - a) := by
 rw [ByteArray.data_extract, Array.toList_extract, List.extract_eq_take_drop]
theorem size_list (s : ByteArray) : s.data.toList.length = s.size := by rw [Array.length_toList]; rfl
theorem append_list (s t : ByteArray) : (s ++ t).data.toList = s.data.toList ++ t.data.toList := by
 rw [ByteArray.data_append, Array.toList_append]
theorem ext_list {s t : ByteArray} (h : s.data.toList = t.data.toList) : s = t := ByteArray.ext (Array.ext' h)
theorem back_val (n k : Nat) (r : ByteArray) : val ((putB n k ++ r).data.toList.take k) = n % 256 ^ k := by
 rw [append_list, putB_data, List.take_append_of_le_length (by rw [digits_length]; exact Nat.le_refl _), List.take_of_length_le (by rw [digits_length]; exact Nat.le_refl _), val_digits]
theorem front (s r : ByteArray) (k : Nat) (h : s.size = k) : (s ++ r).extract 0 k = s := by
 apply ext_list
 rw [extract_list, append_list, List.drop_zero, Nat.sub_zero, List.take_append_of_le_length (by rw [size_list]; omega), List.take_of_length_le (by rw [size_list]; omega)]
theorem behind (s r : ByteArray) (k : Nat) (h : s.size = k) : (s ++ r).extract k (s ++ r).size = r := by
 apply ext_list
 rw [extract_list, append_list, List.drop_append_of_le_length (by rw [size_list]; omega), List.drop_of_length_le (by rw [size_list]; omega), List.nil_append, List.take_of_length_le]
 rw [size_list, ByteArray.size_append]; omega
theorem textB_data (s : ByteArray) (k : Nat) : (textB s k).data.toList = UInt8.ofNat s.size :: (List.range k).map (at0 s) := by
 show (List.range (1 + k)).map (textF s) = _
 rw [Nat.add_comm, List.range_succ_eq_map, List.map_cons, List.map_map]
 rfl
theorem at0_range (s : ByteArray) (k : Nat) (h : s.size ≤ k) : ((List.range k).map (at0 s)).take s.size = s.data.toList := by
 rw [← List.map_take, List.take_range, Nat.min_eq_left h]
 exact congrArg (fun b : ByteArray => b.data.toList) (textOf_at0 s)
theorem middle (s r : ByteArray) (k : Nat) (h : s.size ≤ k) : (textB s k ++ r).extract 1 (1 + s.size) = s := by
 apply ext_list
 rw [extract_list, append_list, textB_data, List.cons_append, List.drop_succ_cons, List.drop_zero, Nat.add_sub_cancel_left,
  List.take_append_of_le_length (by simpa using h), at0_range s k h]
theorem first (s r : ByteArray) (k : Nat) (h : 0 < (textB s k ++ r).size) : (textB s k ++ r)[0] = UInt8.ofNat s.size := by
 have h1 : at0 (textB s k ++ r) 0 = UInt8.ofNat s.size := by
  unfold at0
  rw [append_list, textB_data]; rfl
 rw [← at0_eq _ 0 h, h1]
theorem join (s : ByteArray) (k : Nat) : s.extract 0 k ++ s.extract k s.size = s := by
 apply ext_list
 rw [append_list, extract_list, extract_list, List.drop_zero, Nat.sub_zero, List.take_of_length_le (l := s.data.toList.drop k) (by rw [List.length_drop, size_list]; omega), List.take_append_drop]
theorem byteAt_mod (n k i : Nat) (h : i < k) : byteAt (n % 256 ^ k) i = byteAt n i := by
 apply UInt8.toNat_inj.1
 have e : 256 ^ k = 256 ^ i * 256 ^ (k - i) := by rw [← Nat.pow_add]; congr 1; omega
 have d : 256 ∣ 256 ^ (k - i) := by
  obtain ⟨j, hj⟩ : ∃ j, k - i = j + 1 := ⟨k - i - 1, by omega⟩
  rw [hj, Nat.pow_succ]; exact Nat.dvd_mul_left _ _
 rw [byteAt_toNat, byteAt_toNat, e, Nat.mod_mul_right_div_self, Nat.mod_mod_of_dvd _ d]
theorem digits_mod (n k : Nat) : digits k n = digits k (n % 256 ^ k) := by
 unfold digits
 apply List.map_congr_left
 intro j hj
 have hj := List.mem_range.1 hj
 exact (byteAt_mod n k _ (by omega)).symm
theorem digits_val (l : List UInt8) : digits l.length (val l) = l := by
 induction l with
 | nil => rfl
 | cons b l ih =>
  have hv := val_lt l
  have hp : 0 < 256 ^ l.length := Nat.pow_pos (by decide)
  rw [List.length_cons, digits_succ]
  congr 1
  ·apply UInt8.toNat_inj.1
   rw [byteAt_toNat, val_cons, Nat.mul_comm, Nat.mul_add_div hp, Nat.div_eq_of_lt hv, Nat.add_zero]
   exact Nat.mod_eq_of_lt b.toNat_lt
  ·rw [digits_mod, val_cons, Nat.mul_comm, Nat.mul_add_mod, Nat.mod_eq_of_lt hv]
   exact ih
theorem once_put (s : ByteArray) (k : Nat) (h : k ≤ s.size) : putB (val (s.data.toList.take k)) k ++ s.extract k s.size = s := by
 have h1 : putB (val (s.data.toList.take k)) k = s.extract 0 k := by
  apply ext_list
  have hl : (s.data.toList.take k).length = k := by rw [List.length_take, size_list]; omega
  have h2 := digits_val (s.data.toList.take k)
  rw [hl] at h2
  rw [putB_data, h2, extract_list]
  simp
 rw [h1, join s k]
theorem once_fits (s : ByteArray) (k : Nat) (h : k ≤ s.size) : val (s.data.toList.take k) < 256 ^ k := by
 have h1 := val_lt (s.data.toList.take k)
 have hl : (s.data.toList.take k).length = k := by rw [List.length_take, size_list]; omega
 rwa [hl] at h1
end Pack
end Go.Proofs.YthgfpdidilolgaaGreat.Eld
namespace Go.Proofs.YthgfpdidilolgaaGreat.Eld
set_option maxRecDepth 10000
open Go.RowKit
theorem isWidth_any (k : Int) (w : World) : Calls Tryz.prog 217 #[.int .i64 k] w fun e w' => e = .returned (.bool (decide (1 ≤ k) && decide (k ≤ 8))) ∧ w' = w := by
 by_cases h1 : 1 ≤ k
 ·by_cases h2 : k ≤ 8
  ·rw [decide_eq_true h1, decide_eq_true h2]
   go_enter Tryz.func217, Tryz.ntmps217
   go_wp2
   go_ret
   exact ⟨rfl, rfl⟩
  ·rw [decide_eq_true h1, decide_eq_false h2]
   go_enter Tryz.func217, Tryz.ntmps217
   go_wp2
   go_ret
   exact ⟨rfl, rfl⟩
 ·rw [decide_eq_false h1]
  go_enter Tryz.func217, Tryz.ntmps217
  go_wp2
  go_ret
  exact ⟨rfl, rfl⟩
theorem isTextWidth_any (k : Int) (w : World) : Calls Tryz.prog 232 #[.int .i64 k] w fun e w' => e = .returned (.bool (decide (0 ≤ k) && decide (k ≤ 255))) ∧ w' = w := by
 by_cases h1 : 0 ≤ k
 ·by_cases h2 : k ≤ 255
  ·rw [decide_eq_true h1, decide_eq_true h2]
   go_enter Tryz.func232, Tryz.ntmps232
   go_wp2
   go_ret
   exact ⟨rfl, rfl⟩
  ·rw [decide_eq_true h1, decide_eq_false h2]
   go_enter Tryz.func232, Tryz.ntmps232
   go_wp2
   go_ret
   exact ⟨rfl, rfl⟩
 ·rw [decide_eq_false h1]
  go_enter Tryz.func232, Tryz.ntmps232
  go_wp2
  go_ret
  exact ⟨rfl, rfl⟩
theorem info5 : (Tryz.prog.info? 5).map (fun i => (i.zero, i.size, i.bytes)) = some (some (Value.int IntKind.u8 0), 1, 1) := by kernel_rfl
set_option maxHeartbeats 1000000 in
theorem clone_any (s : ByteArray) (w : World) (hs : s.size ≤ 281474976710656) :
  Calls Tryz.prog 230 #[.string s] w fun e w' => e = .returned (.string s) ∧ Below w.heap.size w w' := by
 by_cases h0 : s.size = 0
 ·obtain rfl : s = ⟨#[]⟩ := ByteArray.ext (Array.eq_empty_of_size_eq_zero h0)
  go_enter Tryz.func230, Tryz.ntmps230
  go_wp2
  go_ret
  exact ⟨rfl, Below.refl _ _⟩
 ·obtain ⟨i5, hi, hz, hone, hby⟩ := info_parts info5
  have hsize : (Tryz.prog.info? 5).map (·.size) = some 1 := by rw [hi]; simp [hone]
  have hcells : Tryz.prog.cellsOf 5 = 1 := by kernel_rfl
  obtain ⟨M, hM⟩ : ∃ M, M = madeCells (Value.int .u8 0).cells (((s.size : Nat) : Int).toNat * i5.size) := ⟨_, rfl⟩
  have hMs : M.size = s.size := by rw [hM, size_madeCells, hone]; simp
  have kmake : ∀ W : World, (Instr.makeSlice 162 (.int .i64 (s.size : Int)) (.int .i64 (s.size : Int))).run Tryz.prog W = .ok (.slice (some ⟨W.heap.size, 0, none⟩) s.size s.size) (W.alloc (.cells M 5)) := fun W => by
   have h := run_make (P := Tryz.prog) W 162 5 i5 (.int .u8 0) Tryz.underlying162 hi hz .i64 .i64 (s.size : Int) (s.size : Int) (by omega) (by omega) (by rw [hby]; omega) (by omega)
   rw [← hM] at h
   simpa using h
  clear hM
  have kcopy := Lib.run_copy_row_string (P := Tryz.prog) (w.alloc (.cells M 5)) 162 9 3 5 w.heap.size 0 s.size s.size s M 5 Tryz.underlying162 hsize (heap_alloc_new w _) (Nat.le_refl _) (by omega)
  obtain ⟨Y, hY⟩ : ∃ Y, Y = (M.toList.take 0 ++ Lib.byteCells s.data.toList ++ M.toList.drop (0 + s.size)).toArray := ⟨_, rfl⟩
  rw [← hY] at kcopy
  have hYl : Y.toList = Lib.byteCells s.data.toList := by
   rw [hY, List.toList_toArray, List.take_zero, List.nil_append, List.drop_of_length_le (by rw [Array.length_toList]; omega), List.append_nil]
  have hYs : Y.size = s.size := by rw [← Array.length_toList, hYl, Lib.byteCells_length, ← Lib.size_eq]
  have hrow : ((w.alloc (.cells M 5)).setRow w.heap.size Y).heap[w.heap.size]? = some (.cells Y 5 (0, 0)) := setRow_heap _ _ M _ 5 (0, 0) (heap_alloc_new w _)
  have hne : s.data.toList ≠ [] := fun e => h0 (by rw [Lib.size_eq, e]; rfl)
  have kstr := Lib.run_unsafeString_row (P := Tryz.prog) ((w.alloc (.cells M 5)).setRow w.heap.size Y) 259 3 9 5 Tryz.underlying259 hcells w.heap.size Y.size (by unfold World.shape?; rw [hrow]) s.data.toList hne (by rw [← Lib.size_eq]; omega) (by rw [← Lib.size_eq]; omega)
   (fun j x hx => Lib.cells_of_row hrow Y.size j _ (by rw [List.take_of_length_le (by rw [Array.length_toList]; exact Nat.le_refl _), hYl]; simp [Lib.byteCells, hx]))
  rw [← Lib.size_eq] at kstr
  clear hY
  go_enter Tryz.func230, Tryz.ntmps230
  go_wp2
  go_ret
  have hb1 : Below w.heap.size w (w.alloc (.cells M 5)) := (Below.refl _ w).alloc (Nat.le_refl _) _
  have hb2 : Below w.heap.size (w.alloc (.cells M 5)) ((w.alloc (.cells M 5)).setRow w.heap.size Y) := ⟨rfl, rfl, rfl, by simp, fun k hk => setRow_other _ _ _ _ (by omega)⟩
  exact ⟨rfl, Lib.below_freeze (hb1.trans hb2) (p := ⟨w.heap.size, 0, none⟩) (Nat.le_refl _) _⟩
theorem sclone_any (s : ByteArray) (w : World) (hs : s.size ≤ 281474976710656) :
  Calls Tryz.prog 227 #[.string s] w fun e w' => e = .returned (.string s) ∧ Below w.heap.size w w' := by
 go_enter Tryz.func227, Tryz.ntmps227
 go_wp2_with fail
 refine (clone_any s _ hs).mono ?_
 rintro e w1 ⟨rfl, hb1⟩
 go_wp2_with fail
 go_ret
 exact ⟨rfl, hb1⟩
theorem own_any (s : ByteArray) (w : World) (hs : s.size ≤ 281474976710656) :
  Calls Tryz.prog 223 #[.string s] w fun e w' => e = .returned (.string s) ∧ Below w.heap.size w w' := by
 go_enter Tryz.func223, Tryz.ntmps223
 go_wp2_with fail
 refine (sclone_any s _ hs).mono ?_
 rintro e w1 ⟨rfl, hb1⟩
 go_wp2_with fail
 go_ret
 exact ⟨rfl, hb1⟩
end Go.Proofs.YthgfpdidilolgaaGreat.Eld
namespace Go.Proofs.YthgfpdidilolgaaGreat.Eld
set_option maxRecDepth 10000
open Go.RowKit
theorem ret_string {s t : ByteArray} (h : s = t) : Ending.returned (.string s) = .returned (.string t) := by rw [h]
theorem ret_bool {s t : Bool} (h : s = t) : Ending.returned (.bool s) = .returned (.bool t) := by rw [h]
theorem slice8 (w : World) (B k : Nat) (h : k ≤ 8) : (Instr.sliceAt 267 (.pointer (some ⟨B, 0, none⟩)) none (some (.int .i64 (k : Int))) none).run Tryz.prog w = .ok (.slice (some ⟨B, 0, none⟩) k 8) w := by
 have ha : Tryz.prog.arrayLen 267 = 8 := by kernel_rfl
 have he : Tryz.prog.elem 267 = 5 := by kernel_rfl
 have hz : (sizeOf 5).run Tryz.prog w = .ok 1 w := by kernel_rfl
 rw [run_sliceAt_array_h w 267 _ (by kernel_rfl) .i64 (k : Int) (by omega) (by rw [ha]; omega), ha, he, hz]
 simp [slicedAt, Addr.add]
theorem slice256 (w : World) (B k : Nat) (h : k ≤ 256) : (Instr.sliceAt 273 (.pointer (some ⟨B, 0, none⟩)) none (some (.int .i64 (k : Int))) none).run Tryz.prog w = .ok (.slice (some ⟨B, 0, none⟩) k 256) w := by
 have ha : Tryz.prog.arrayLen 273 = 256 := by kernel_rfl
 have he : Tryz.prog.elem 273 = 5 := by kernel_rfl
 have hz : (sizeOf 5).run Tryz.prog w = .ok 1 w := by kernel_rfl
 rw [run_sliceAt_array_h w 273 _ (by kernel_rfl) .i64 (k : Int) (by omega) (by rw [ha]; omega), ha, he, hz]
 simp [slicedAt, Addr.add]
set_option maxHeartbeats 1000000 in
theorem put_ok (n : Nat) (k : Nat) (h1 : 1 ≤ k) (h8 : k ≤ 8) (w : World) :
  Calls Tryz.prog 210 #[.int .u64 (n : Int), .int .i64 (k : Int)] w fun e w' => e = .returned (.string (Pack.putB n k)) ∧ Below w.heap.size w w' := by
 have hi := isWidth_any (k : Int) w
 rw [decide_eq_true (by omega), decide_eq_true (by omega)] at hi
 go_enter Tryz.func210, Tryz.ntmps210
 go_wp2_with fail
 refine hi.mono ?_
 rintro e w1 ⟨rfl, rfl⟩
 go_wp2_with fail
 go_loopw [11] (fun i w' => ∃ m : Nat, ∃ f : Nat → UInt8, m ≤ k ∧ i = .int .i64 m ∧ Held w1.heap.size 8 f w' ∧ Below w1.heap.size w1 w' ∧ Hid (∀ j, k - m ≤ j → j < k → f j = Pack.putF n k j)) (fun i _ => (k - intOf i).toNat)
 case atStart =>
  refine ⟨0, fun _ => 0, by omega, rfl, ?_, (Below.refl _ _).alloc (Nat.le_refl _) _, ?_⟩
  ·refine ⟨by simp, fun j hj => ?_⟩
   obtain rfl | rfl | rfl | rfl | rfl | rfl | rfl | rfl : j = 0 ∨ j = 1 ∨ j = 2 ∨ j = 3 ∨ j = 4 ∨ j = 5 ∨ j = 6 ∨ j = 7 := by omega
   all_goals simp [go_sem]
  ·intro j _ _; omega
 case round =>
  obtain ⟨m, f, hm, rfl, hH, hb, hf⟩ := hrel
  by_cases hlt : m < k
  ·have kc := (hH.2 (k - 1 - m) (by omega)).1
   have kf := (hH.2 (k - 1 - m) (by omega)).2
   have H : Hid ((n : Int) / 2 ^ (8 * m) % 256 = ((Pack.byteAt n m).toNat : Int)) := Pack.shr_eq n m
   go_wp2_with fail
   refine ⟨⟨m + 1, _, by omega, by go_num, (by rw [H.out]; exact hH.set (by omega) (Pack.byteAt n m)), ?_, ?_⟩, by simp [intOf]; omega⟩
   ·exact hb.setCell (Nat.le_refl _) _
   ·intro j h2 h3
    show (if j = k - 1 - m then _ else f j) = _
    split
    ·rename_i hj
     unfold Pack.putF
     congr 1; omega
    ·exact hf.out j (by omega) h3
  ·have ks := slice8 wr w1.heap.size k h8
   have kc := (hH.less (show k ≤ 8 by omega)).conv (P := Tryz.prog) (cap := 8) 162 5 9 Tryz.underlying162 Tryz.underlying5 Tryz.underlying9
   go_wp2_with fail
   go_ret
   refine ⟨ret_string (textOf_congr fun j hj => hf.out j (by omega) hj), hb⟩
theorem fits_ok (n : Nat) (k : Nat) (h1 : 1 ≤ k) (h8 : k ≤ 8) (w : World) :
  Calls Tryz.prog 199 #[.int .u64 (n : Int), .int .i64 (k : Int)] w fun e w' => e = .returned (.bool (decide (n < 256 ^ k))) ∧ w' = w := by
 have hi := isWidth_any (k : Int) w
 rw [decide_eq_true (by omega), decide_eq_true (by omega)] at hi
 go_enter Tryz.func199, Tryz.ntmps199
 go_wp2_with fail
 refine hi.mono ?_
 rintro e w1 ⟨rfl, rfl⟩
 go_wp2_with fail
 go_ret
 exact ⟨ret_bool (Pack.shr_zero n k), rfl⟩
end Go.Proofs.YthgfpdidilolgaaGreat.Eld
namespace Go.Proofs.YthgfpdidilolgaaGreat.Eld
set_option maxRecDepth 10000
open Go.RowKit
set_option maxHeartbeats 1000000 in
theorem take_ok (s : ByteArray) (hs : s.size ≤ 140737488355328) (k : Nat) (h1 : 1 ≤ k) (h8 : k ≤ 8) (hk : k ≤ s.size) (w : World) :
  Calls Tryz.prog 212 #[.string s, .int .i64 (k : Int)] w fun e w' => e = .returned (.tuple #[.int .u64 (Pack.val (s.data.toList.take k) : Int), .string (s.extract k s.size), .bool true]) ∧ Below w.heap.size w w' := by
 have hi := isWidth_any (k : Int) w
 rw [decide_eq_true (by omega), decide_eq_true (by omega)] at hi
 have hlen : ¬ s.size < k := by omega
 go_enter Tryz.func212, Tryz.ntmps212
 go_wp2_with fail
 refine hi.mono ?_
 rintro e w1 ⟨rfl, rfl⟩
 go_wp2_with fail
 go_loop [7, 19] (fun x i => ∃ m : Nat, m ≤ k ∧ i = .int .i64 m ∧ ∃ z : Nat, x = .int .u64 (z : Int) ∧ Hid (z = Pack.val (s.data.toList.take m))) (fun _ i => (k - intOf i).toNat)
 case atStart => exact ⟨0, by omega, rfl, 0, rfl, rfl⟩
 case round =>
  obtain ⟨m, hm, rfl, z, rfl, hz⟩ := hrel
  by_cases hlt : m < k
  ·have hms : m < s.size := by omega
   have hsm := Pack.val_small (s.data.toList.take m) (by rw [List.length_take]; omega)
   have H : Hid (bits .or .u64 (IntKind.u64.wrap ((z : Int) * 256)) (IntKind.u64.wrap (s[m].toNat : Int)) = ((z * 256 + s[m].toNat : Nat) : Int)) :=
    Pack.or_step z s[m].toNat (by rw [hz.out]; exact Nat.lt_of_le_of_lt (Nat.le_add_right _ 255) hsm) s[m].toNat_lt
   have Z : Hid (z * 256 + s[m].toNat = Pack.val (s.data.toList.take (m + 1))) := by
    unfold Hid; rw [Pack.val_take _ m (by rw [Array.length_toList]; exact hms), hz.out]; rfl
   clear hsm
   go_wp2_with fail
   go_round
   case rel => exact ⟨m + 1, by omega, by go_num, _, by rw [H.out], Z⟩
   case measure => simp [intOf]; omega
  ·go_wp2_with fail
   refine (own_any _ _ (by simp; omega)).mono ?_
   rintro e w2 ⟨rfl, hb2⟩
   go_wp2_with fail
   go_ret3
   obtain rfl : m = k := by omega
   have hz' := hz.out
   subst hz'
   exact ⟨rfl, hb2⟩
end Go.Proofs.YthgfpdidilolgaaGreat.Eld
namespace Go.Proofs.YthgfpdidilolgaaGreat.Eld
set_option maxRecDepth 10000
open Go.RowKit
theorem ret_text {s t : ByteArray} {b : Bool} (h : s = t) : Ending.returned (.tuple #[.string s, .bool b]) = .returned (.tuple #[.string t, .bool b]) := by rw [h]
set_option maxHeartbeats 1000000 in
theorem putText_ok (s : ByteArray) (k : Nat) (h255 : k ≤ 255) (hk : s.size ≤ k) (w : World) :
  Calls Tryz.prog 229 #[.string s, .int .i64 (k : Int)] w fun e w' => e = .returned (.tuple #[.string (Pack.textB s k), .bool true]) ∧ Below w.heap.size w w' := by
 have hi := isTextWidth_any (k : Int) w
 rw [decide_eq_true (by omega), decide_eq_true (by omega)] at hi
 have hlen : ¬ k < s.size := by omega
 go_enter Tryz.func229, Tryz.ntmps229
 go_wp2_with fail
 refine hi.mono ?_
 rintro e w1 ⟨rfl, rfl⟩
 obtain ⟨Z, hZ, kz⟩ : ∃ Z : Array Value, (∀ j, j < 256 → Z[j]? = some (.int .u8 0)) ∧ ∀ w, (zeroValue 273).run Tryz.prog w = .ok (.agg Z) w :=
  ⟨Array.replicate 256 (.int .u8 0), fun j hj => by simp [hj], fun w => by kernel_rfl⟩
 have hH := held_new w1 256 273 Z hZ
 have kc := (hH.2 0 (by omega)).1
 have kf := (hH.2 0 (by omega)).2
 have H0 : Hid ((s.size : Int) = ((UInt8.ofNat s.size).toNat : Int)) := by
  unfold Hid; rw [UInt8.toNat_ofNat']; omega
 have hZ' : Hid (∀ j, j < 256 → Z[j]? = some (.int .u8 0)) := hZ
 clear hZ
 go_wp2_with fail
 go_loopw [23] (fun i w' => ∃ m : Nat, ∃ f : Nat → UInt8, m ≤ s.size ∧ i = .int .i64 m ∧ Held w1.heap.size 256 f w' ∧ Below w1.heap.size w1 w' ∧ Hid (∀ j, f j = if j ≤ m then Pack.textF s j else 0)) (fun i _ => (s.size - intOf i).toNat)
 case atStart =>
  refine ⟨0, fun j => if j = 0 then UInt8.ofNat s.size else 0, by omega, rfl, held_row _ _ _ _ _ fun j hj => ?_, (Below.refl _ _).alloc (Nat.le_refl _) _, ?_⟩
  ·rw [H0.out, Array.getElem?_setIfInBounds]
   by_cases h : j = 0
   ·subst h
    have h0 := hZ'.out 0 (by omega)
    have hz := (Array.getElem?_eq_some_iff.1 h0).1
    simp [hz]
   ·rw [if_neg (fun e => h e.symm), if_neg h, hZ'.out j hj]; rfl
  ·intro j
   show (if j = 0 then UInt8.ofNat s.size else 0) = _
   by_cases hj : j = 0
   ·subst hj; rfl
   ·rw [if_neg hj, if_neg (by omega)]
 case round =>
  obtain ⟨m, f, hm, rfl, hH, hb, hf⟩ := hrel
  by_cases hlt : m < s.size
  ·have kc := (hH.2 (1 + m) (by omega)).1
   have kf := (hH.2 (1 + m) (by omega)).2
   go_wp2_with fail
   refine ⟨⟨m + 1, _, by omega, by go_num, hH.set (by omega) s[m], hb.setCell (Nat.le_refl _) _, ?_⟩, by simp [intOf]; omega⟩
   intro j
   show (if j = 1 + m then s[m] else f j) = _
   by_cases hj : j = 1 + m
   ·subst hj
    rw [if_pos rfl, if_pos (by omega)]
    unfold Pack.textF
    rw [if_neg (by omega), show 1 + m - 1 = m by omega, Pack.at0_eq s m hlt]
   ·rw [if_neg hj, hf.out j]
    by_cases h2 : j ≤ m
    ·rw [if_pos h2, if_pos (by omega)]
    ·rw [if_neg h2, if_neg (by omega)]
  ·have ks := slice256 wr w1.heap.size (1 + k) (by omega)
   have kc := (hH.less (show 1 + k ≤ 256 by omega)).conv (P := Tryz.prog) (cap := 256) 162 5 9 Tryz.underlying162 Tryz.underlying5 Tryz.underlying9
   rw [show (((1 + k : Nat)) : Int) = 1 + (k : Int) by omega] at ks
   go_wp2_with fail
   go_ret2
   refine ⟨ret_text (textOf_congr fun j hj => ?_), hb⟩
   rw [hf.out j]
   by_cases h2 : j ≤ m
   ·rw [if_pos h2]
   ·rw [if_neg h2]
    unfold Pack.textF
    rw [if_neg (by omega), Pack.at0_past s _ (by omega)]
end Go.Proofs.YthgfpdidilolgaaGreat.Eld
namespace Go.Proofs.YthgfpdidilolgaaGreat.Eld
set_option maxRecDepth 10000
open Go.RowKit
theorem below_draws (B : Nat) (w : World) (n : Nat) : Below B w (w.drewN n) := ⟨rfl, rfl, rfl, Nat.le_refl _, fun _ _ => rfl⟩
theorem bytes_eq {a b : ByteArray} (h : a = b) : (a.toList == b.toList) = true := by rw [h]; exact beq_self_eq_true _
theorem bytes_ne {a b : ByteArray} (h : ¬ a = b) : (a.toList == b.toList) = false := by
 rw [beq_eq_false_iff_ne]
 intro e
 rw [ByteArray.toList_eq, ByteArray.toList_eq] at e
 exact h (ByteArray.ext (Array.ext' e))
set_option maxHeartbeats 1000000 in
theorem takeText_other (s : ByteArray) (hs : s.size ≤ 140737488355328) (k : Nat) (h255 : k ≤ 255) (hk : 1 + k ≤ s.size) (h : Nat) (hh0 : (s[0]'(by omega)).toNat = h) (hh : h ≤ k)
  (hne : ¬ s.extract 0 (1 + k) = Pack.textB (s.extract 1 (1 + h)) k) (w : World) :
  Calls Tryz.prog 231 #[.string s, .int .i64 (k : Int)] w fun e w' => e = .returned (.tuple #[.string ⟨#[]⟩, .string ⟨#[]⟩, .bool false]) ∧ Below w.heap.size w w' := by
 have hi := isTextWidth_any (k : Int) w
 rw [decide_eq_true (by omega), decide_eq_true (by omega)] at hi
 have hlen : decide ((s.size : Int) < 1 + (k : Int)) = false := decide_eq_false (by omega)
 have h0 : 0 < s.size := by omega
 have q1 : IntKind.i64.wrap (h : Int) = h := by rw [IntKind.wrap_i64]; omega
 have q2 : IntKind.i64.wrap (1 + (h : Int)) = 1 + h := by rw [IntKind.wrap_i64]; omega
 have q3 : IntKind.i64.wrap (1 + (k : Int)) = 1 + k := by rw [IntKind.wrap_i64]; omega
 have q4 : (1 : Int) ≤ 1 + (h : Int) := by omega
 have q5 : 1 + (h : Int) ≤ (s.size : Int) := by omega
 have q6 : 1 + (k : Int) ≤ (s.size : Int) := by omega
 have hc : ((s.extract 0 (1 + k)).toList == (Pack.textB (s.extract 1 (1 + h)) k).toList) = false := (bytes_ne hne)
 go_enter Tryz.func231, Tryz.ntmps231
 go_wp2_with fail
 refine hi.mono ?_
 rintro e w1 ⟨rfl, rfl⟩
 go_wp2_with fail
 go_quiet (fail)
 have hd : Below w1.heap.size w1 (w1.drewN nq) := below_draws _ _ _
 generalize w1.drewN nq = w2 at hd ⊢
 go_wp2_with fail
 refine (putText_ok (s.extract 1 (1 + h)) k h255 (by simp; omega) _).mono ?_
 rintro e w3 ⟨rfl, hb3⟩
 go_wp2_with fail
 go_ret3
 exact ⟨rfl, hd.trans (hb3.mono hd.size)⟩
set_option maxHeartbeats 1000000 in
theorem takeText_ok (s : ByteArray) (hs : s.size ≤ 140737488355328) (k : Nat) (h255 : k ≤ 255) (hk : 1 + k ≤ s.size) (h : Nat) (hh0 : (s[0]'(by omega)).toNat = h) (hh : h ≤ k)
  (heq : s.extract 0 (1 + k) = Pack.textB (s.extract 1 (1 + h)) k) (w : World) :
  Calls Tryz.prog 231 #[.string s, .int .i64 (k : Int)] w fun e w' => e = .returned (.tuple #[.string (s.extract 1 (1 + h)), .string (s.extract (1 + k) s.size), .bool true]) ∧ Below w.heap.size w w' := by
 have hi := isTextWidth_any (k : Int) w
 rw [decide_eq_true (by omega), decide_eq_true (by omega)] at hi
 have hlen : decide ((s.size : Int) < 1 + (k : Int)) = false := decide_eq_false (by omega)
 have h0 : 0 < s.size := by omega
 have q1 : IntKind.i64.wrap (h : Int) = h := by rw [IntKind.wrap_i64]; omega
 have q2 : IntKind.i64.wrap (1 + (h : Int)) = 1 + h := by rw [IntKind.wrap_i64]; omega
 have q3 : IntKind.i64.wrap (1 + (k : Int)) = 1 + k := by rw [IntKind.wrap_i64]; omega
 have q4 : (1 : Int) ≤ 1 + (h : Int) := by omega
 have q5 : 1 + (h : Int) ≤ (s.size : Int) := by omega
 have q6 : 1 + (k : Int) ≤ (s.size : Int) := by omega
 have hc : ((s.extract 0 (1 + k)).toList == (Pack.textB (s.extract 1 (1 + h)) k).toList) = true := (bytes_eq heq)
 go_enter Tryz.func231, Tryz.ntmps231
 go_wp2_with fail
 refine hi.mono ?_
 rintro e w1 ⟨rfl, rfl⟩
 go_wp2_with fail
 go_quiet (fail)
 have hd : Below w1.heap.size w1 (w1.drewN nq) := below_draws _ _ _
 generalize w1.drewN nq = w2 at hd ⊢
 go_wp2_with fail
 refine (putText_ok (s.extract 1 (1 + h)) k h255 (by simp; omega) _).mono ?_
 rintro e w3 ⟨rfl, hb3⟩
 go_wp2_with fail
 refine (own_any _ _ (by simp; omega)).mono ?_
 rintro e w4 ⟨rfl, hb4⟩
 go_wp2_with fail
 refine (own_any _ _ (by simp; omega)).mono ?_
 rintro e w5 ⟨rfl, hb5⟩
 go_wp2_with fail
 go_ret3
 have s3 := Nat.le_trans hd.size hb3.size
 exact ⟨rfl, hd.trans ((hb3.mono hd.size).trans ((hb4.mono s3).trans (hb5.mono (Nat.le_trans s3 hb4.size))))⟩
end Go.Proofs.YthgfpdidilolgaaGreat.Eld
namespace Go.Proofs.YthgfpdidilolgaaGreat.Eld
set_option maxRecDepth 10000
open Go.RowKit
end Go.Proofs.YthgfpdidilolgaaGreat.Eld
namespace Go.Proofs.YthgfpdidilolgaaGreat.Eld
set_option maxRecDepth 10000
open Go.RowKit
end Go.Proofs.YthgfpdidilolgaaGreat.Eld
namespace Go.Proofs.YthgfpdidilolgaaGreat.Eld
set_option maxRecDepth 10000
open Go.RowKit
theorem num_back (n : Nat) (r : ByteArray) (hr : r.size ≤ 140737488351232) (k : Nat) (h1 : 1 ≤ k) (h8 : k ≤ 8) (w : World) :
  Calls Tryz.prog 212 #[.string (Pack.putB n k ++ r), .int .i64 (k : Int)] w fun e w' => e = .returned (.tuple #[.int .u64 ((n % 256 ^ k : Nat) : Int), .string r, .bool true]) ∧ Below w.heap.size w w' := by
 have hz := Pack.putB_size n k
 have h := take_ok (Pack.putB n k ++ r) (by rw [ByteArray.size_append, hz]; omega) k h1 h8 (by rw [ByteArray.size_append, hz]; omega) w
 rw [Pack.back_val, Pack.behind _ _ _ hz] at h
 exact h
theorem text_back (s r : ByteArray) (hr : r.size ≤ 140737488351232) (k : Nat) (h255 : k ≤ 255) (hk : s.size ≤ k) (w : World) :
  Calls Tryz.prog 231 #[.string (Pack.textB s k ++ r), .int .i64 (k : Int)] w fun e w' => e = .returned (.tuple #[.string s, .string r, .bool true]) ∧ Below w.heap.size w w' := by
 have hz := Pack.textB_size s k
 have hsz : (Pack.textB s k ++ r).size = 1 + k + r.size := by rw [ByteArray.size_append, hz]
 have hm := Pack.middle s r k hk
 have hf := Pack.front (Pack.textB s k) r (1 + k) hz
 have h := takeText_ok (Pack.textB s k ++ r) (by omega) k h255 (by omega) s.size
  (by rw [Pack.first s r k (by omega), UInt8.toNat_ofNat']; omega) hk (by rw [hf, hm]) w
 rw [hm, Pack.behind _ _ _ hz] at h
 exact h
end Go.Proofs.YthgfpdidilolgaaGreat.Eld
