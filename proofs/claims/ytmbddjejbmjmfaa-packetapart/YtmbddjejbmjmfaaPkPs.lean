/-
  Plain facts: any 641 bytes are a packet's fields and four bytes more; a packet's bytes are of 641.
  No condition.
-/
import Derived.Test.YtmbddjejbmjmfaaPkEnc
import Derived.Test.YtmbddjejbmjmfaaFrBk
namespace Go.Proofs.Ytmbddjejbmjmfaa
set_option maxRecDepth 10000
open Go.RowKit Go.Sort

def seg (l : List UInt8) (o k : Nat) : List UInt8 := (l.drop o).take k
def offs (i : Nat) : Nat := if i = 0 then 0 else if i = 1 then 1 else if i = 2 then 5 else if i = 3 then 9 else if i = 4 then 10 else if i < 13 then 14 + 4 * (i - 5) else if i < 21 then 46 + 4 * (i - 13) else if i = 21 then 78 else if i = 22 then 82 else if i = 23 then 83 else if i < 32 then 87 + 4 * (i - 24) else if i = 33 then 120 else if i = 34 then 124 else if i = 107 then 464 else if i = 108 then 465 else 0
def wids (i : Nat) : Nat := if i = 0 then 1 else if i = 3 then 1 else if i = 22 then 1 else if i = 107 then 1 else 4
def tab (l : List UInt8) (i : Nat) : Nat := Pack.val (seg l (offs i) (wids i))

theorem seg_le (l : List UInt8) (o k : Nat) : (seg l o k).length ≤ k := by simp [seg]; omega
theorem seg_length (l : List UInt8) (o k : Nat) (h : o + k ≤ l.length) : (seg l o k).length = k := by simp [seg]; omega
theorem wids_le (i : Nat) : wids i ≤ 4 := by unfold wids; split <;> (try split) <;> (try split) <;> (try split) <;> omega
theorem tab_lt (l : List UInt8) (i : Nat) : tab l i < 256 ^ wids i := by
  refine Nat.lt_of_lt_of_le (Pack.val_lt _) (Nat.pow_le_pow_right (by decide) (seg_le _ _ _))
theorem tab_wide (l : List UInt8) (i : Nat) : tab l i < 4294967296 := by
  refine Nat.lt_of_lt_of_le (tab_lt l i) ?_
  have := Nat.pow_le_pow_right (n := 256) (by decide) (wids_le i)
  simpa using this
theorem seg_digits (l : List UInt8) (o k : Nat) (h : o + k ≤ l.length) : Pack.digits k (Pack.val (seg l o k)) = seg l o k := by
  have := Pack.digits_val (seg l o k)
  rw [seg_length l o k h] at this
  exact this
theorem seg_cut (l : List UInt8) (o k : Nat) : l.drop o = seg l o k ++ l.drop (o + k) := by
  unfold seg
  rw [← List.drop_drop, List.take_append_drop]

set_option maxHeartbeats 1000000 in
theorem parse_raw (l : List UInt8) (h : l.length = 641) : l = rawb (tab l) (Pack.val (seg l 119 1)) (seg l 128 168) (seg l 296 168) (seg l 469 168) ++ l.drop 637 := by
  have d0 : Pack.digits 1 (tab l 0) = seg l 0 1 := seg_digits l 0 1 (by omega)
  have d1 : Pack.digits 4 (tab l 1) = seg l 1 4 := seg_digits l 1 4 (by omega)
  have d2 : Pack.digits 4 (tab l 2) = seg l 5 4 := seg_digits l 5 4 (by omega)
  have d3 : Pack.digits 1 (tab l 3) = seg l 9 1 := seg_digits l 9 1 (by omega)
  have d4 : Pack.digits 4 (tab l 4) = seg l 10 4 := seg_digits l 10 4 (by omega)
  have d5 : Pack.digits 4 (tab l 5) = seg l 14 4 := seg_digits l 14 4 (by omega)
  have d6 : Pack.digits 4 (tab l 6) = seg l 18 4 := seg_digits l 18 4 (by omega)
  have d7 : Pack.digits 4 (tab l 7) = seg l 22 4 := seg_digits l 22 4 (by omega)
  have d8 : Pack.digits 4 (tab l 8) = seg l 26 4 := seg_digits l 26 4 (by omega)
  have d9 : Pack.digits 4 (tab l 9) = seg l 30 4 := seg_digits l 30 4 (by omega)
  have d10 : Pack.digits 4 (tab l 10) = seg l 34 4 := seg_digits l 34 4 (by omega)
  have d11 : Pack.digits 4 (tab l 11) = seg l 38 4 := seg_digits l 38 4 (by omega)
  have d12 : Pack.digits 4 (tab l 12) = seg l 42 4 := seg_digits l 42 4 (by omega)
  have d13 : Pack.digits 4 (tab l 13) = seg l 46 4 := seg_digits l 46 4 (by omega)
  have d14 : Pack.digits 4 (tab l 14) = seg l 50 4 := seg_digits l 50 4 (by omega)
  have d15 : Pack.digits 4 (tab l 15) = seg l 54 4 := seg_digits l 54 4 (by omega)
  have d16 : Pack.digits 4 (tab l 16) = seg l 58 4 := seg_digits l 58 4 (by omega)
  have d17 : Pack.digits 4 (tab l 17) = seg l 62 4 := seg_digits l 62 4 (by omega)
  have d18 : Pack.digits 4 (tab l 18) = seg l 66 4 := seg_digits l 66 4 (by omega)
  have d19 : Pack.digits 4 (tab l 19) = seg l 70 4 := seg_digits l 70 4 (by omega)
  have d20 : Pack.digits 4 (tab l 20) = seg l 74 4 := seg_digits l 74 4 (by omega)
  have d21 : Pack.digits 4 (tab l 21) = seg l 78 4 := seg_digits l 78 4 (by omega)
  have d22 : Pack.digits 1 (tab l 22) = seg l 82 1 := seg_digits l 82 1 (by omega)
  have d23 : Pack.digits 4 (tab l 23) = seg l 83 4 := seg_digits l 83 4 (by omega)
  have d24 : Pack.digits 4 (tab l 24) = seg l 87 4 := seg_digits l 87 4 (by omega)
  have d25 : Pack.digits 4 (tab l 25) = seg l 91 4 := seg_digits l 91 4 (by omega)
  have d26 : Pack.digits 4 (tab l 26) = seg l 95 4 := seg_digits l 95 4 (by omega)
  have d27 : Pack.digits 4 (tab l 27) = seg l 99 4 := seg_digits l 99 4 (by omega)
  have d28 : Pack.digits 4 (tab l 28) = seg l 103 4 := seg_digits l 103 4 (by omega)
  have d29 : Pack.digits 4 (tab l 29) = seg l 107 4 := seg_digits l 107 4 (by omega)
  have d30 : Pack.digits 4 (tab l 30) = seg l 111 4 := seg_digits l 111 4 (by omega)
  have d31 : Pack.digits 4 (tab l 31) = seg l 115 4 := seg_digits l 115 4 (by omega)
  have dt : Pack.digits 1 (Pack.val (seg l 119 1)) = seg l 119 1 := seg_digits l 119 1 (by omega)
  have d33 : Pack.digits 4 (tab l 33) = seg l 120 4 := seg_digits l 120 4 (by omega)
  have d34 : Pack.digits 4 (tab l 34) = seg l 124 4 := seg_digits l 124 4 (by omega)
  have d107 : Pack.digits 1 (tab l 107) = seg l 464 1 := seg_digits l 464 1 (by omega)
  have d108 : Pack.digits 4 (tab l 108) = seg l 465 4 := seg_digits l 465 4 (by omega)
  have r5 : rown (tab l) 5 = [tab l 5, tab l 6, tab l 7, tab l 8, tab l 9, tab l 10, tab l 11, tab l 12] := rfl
  have r13 : rown (tab l) 13 = [tab l 13, tab l 14, tab l 15, tab l 16, tab l 17, tab l 18, tab l 19, tab l 20] := rfl
  have r24 : rown (tab l) 24 = [tab l 24, tab l 25, tab l 26, tab l 27, tab l 28, tab l 29, tab l 30, tab l 31] := rfl
  have hall : l = (seg l 0 1 ++ (seg l 1 4 ++ (seg l 5 4 ++ (seg l 9 1 ++ (seg l 10 4 ++ (seg l 14 4 ++ (seg l 18 4 ++ (seg l 22 4 ++ (seg l 26 4 ++ (seg l 30 4 ++ (seg l 34 4 ++ (seg l 38 4 ++ (seg l 42 4 ++ (seg l 46 4 ++ (seg l 50 4 ++ (seg l 54 4 ++ (seg l 58 4 ++ (seg l 62 4 ++ (seg l 66 4 ++ (seg l 70 4 ++ (seg l 74 4 ++ (seg l 78 4 ++ (seg l 82 1 ++ (seg l 83 4 ++ (seg l 87 4 ++ (seg l 91 4 ++ (seg l 95 4 ++ (seg l 99 4 ++ (seg l 103 4 ++ (seg l 107 4 ++ (seg l 111 4 ++ (seg l 115 4 ++ (seg l 119 1 ++ (seg l 120 4 ++ (seg l 124 4 ++ (seg l 128 168 ++ (seg l 296 168 ++ (seg l 464 1 ++ (seg l 465 4 ++ (seg l 469 168 ++ l.drop 637)))))))))))))))))))))))))))))))))))))))) := by
    conv => lhs; rw [← List.drop_zero (l := l)]
    rw [seg_cut l 0 1, seg_cut l 1 4, seg_cut l 5 4, seg_cut l 9 1, seg_cut l 10 4, seg_cut l 14 4, seg_cut l 18 4, seg_cut l 22 4, seg_cut l 26 4, seg_cut l 30 4, seg_cut l 34 4, seg_cut l 38 4, seg_cut l 42 4, seg_cut l 46 4, seg_cut l 50 4, seg_cut l 54 4, seg_cut l 58 4, seg_cut l 62 4, seg_cut l 66 4, seg_cut l 70 4, seg_cut l 74 4, seg_cut l 78 4, seg_cut l 82 1, seg_cut l 83 4, seg_cut l 87 4, seg_cut l 91 4, seg_cut l 95 4, seg_cut l 99 4, seg_cut l 103 4, seg_cut l 107 4, seg_cut l 111 4, seg_cut l 115 4, seg_cut l 119 1, seg_cut l 120 4, seg_cut l 124 4, seg_cut l 128 168, seg_cut l 296 168, seg_cut l 464 1, seg_cut l 465 4, seg_cut l 469 168]
  simp only [rawb, idb, nums, r5, r13, r24, List.flatMap_cons, List.flatMap_nil, List.append_nil, List.append_assoc, dt, d0, d1, d2, d3, d4, d5, d6, d7, d8, d9, d10, d11, d12, d13, d14, d15, d16, d17, d18, d19, d20, d21, d22, d23, d24, d25, d26, d27, d28, d29, d30, d31, d33, d34, d107, d108]
  exact hall

/- What one frame's Decode says, code and document, of any bytes. -/
theorem decode_full (s : ByteArray) : ∃ (G : Nat → En) (c : Int),
    (∀ w, Calls Try.prog 65 #[.string s] w fun r w' => r = .returned (.tuple #[.agg (frc G), .int .i64 c]) ∧ Below w.heap.size w w') ∧
    (∀ w, Calls Try.prog 32 #[.string s] w fun r w' => r = .returned (.tuple #[.agg (frc G), .int .i64 c]) ∧ Below w.heap.size w w') ∧
    ((c = 0 ∧ Fr.may G = true ∧ s = Fr.bytes G) ∨ (¬ c = 0)) := by
  by_cases hs : s.size = 168
  · obtain ⟨D, hD⟩ := Classical.axiomOfChoice (fun x => decode_opt (part s x))
    have h := frDecode_gen s hs D (fun x _ => (hD x).1)
    have h' := rfrDecode_gen s hs D (fun x _ => (hD x).2.1)
    cases hg : goodUp D
    · rw [hg] at h h'
      exact ⟨zeroFr, 30, h, h', .inr (by decide)⟩
    · rw [hg, if_pos rfl] at h h'
      have hall := (goodUp_iff D).1 hg
      have hsome : ∀ x, x < 6 → (soFar D 6 x).may = true ∧ part s x = (soFar D 6 x).bytes := by
        intro x hx
        obtain ⟨e, he⟩ := Option.isSome_iff_exists.1 (hall x hx)
        have hv : soFar D 6 x = e := by simp [soFar, hx, he]
        rw [hv]
        exact (hD x).2.2 e he
      refine ⟨soFar D 6, 0, h, h', .inl ⟨rfl, (Fr.may_all _).2 fun x hx => (hsome x hx).1, cut_all s hs _ fun x hx => (hsome x hx).2⟩⟩
  · have hb : ((s.size : Int) == 168) = false := by rw [beq_eq_false_iff_ne]; omega
    exact ⟨zeroFr, 40, frDecode_long s hb, rfrDecode_long s hb, .inr (by decide)⟩

theorem sealed_list (p : Pk) : p.sealed.data.toList = p.body ++ Crc.fourL (Crc.sum p.body) := by
  unfold Pk.sealed
  rw [Pack.append_list, ba_data, Crc.four_data]
theorem sealed_okL (p : Pk) : Crc.okL p.sealed.data.toList = true := by
  rw [sealed_list]; exact Crc.ok_sealed _
theorem okL_tail (l m : List UInt8) (hm : m.length = 4) (h : Crc.okL (l ++ m) = true) : m = Crc.fourL (Crc.sum l) := by
  unfold Crc.okL at h
  rw [List.length_append, hm, Nat.add_sub_cancel, List.drop_append_of_le_length (Nat.le_refl _), List.drop_of_length_le (Nat.le_refl _), List.nil_append, List.take_append_of_le_length (Nat.le_refl _), List.take_of_length_le (Nat.le_refl _), Bool.and_eq_true, beq_iff_eq] at h
  exact h.2
theorem sealed_of (s : ByteArray) (p : Pk) (m : List UInt8) (hm : m.length = 4) (hs : s.data.toList = p.body ++ m) (hok : Crc.okL s.data.toList = true) : s = p.sealed := by
  apply Pack.ext_list
  rw [sealed_list, hs]
  rw [hs] at hok
  rw [← okL_tail p.body m hm hok]

end Go.Proofs.Ytmbddjejbmjmfaa
