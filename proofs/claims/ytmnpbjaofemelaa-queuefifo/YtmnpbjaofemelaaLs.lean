/-
  Who is in members, and who in two of them: Least, Many, List, Has, Same: what each call answers.
  No condition.
-/
import Derived.Test.YtmnpbjaofemelaaMb
namespace Go.Proofs.Ytmnpbjaofemelaa
set_option maxRecDepth 10000
open Go.RowKit Go.Sort

def nv (x : Nat) : List Value := [.int .i64 (x : Int)]
theorem nv_length (x : Nat) : (nv x).length = 1 := rfl
theorem nv_one (x : Nat) : ∀ v ∈ nv x, v.oneCell' = true := by
  intro v hv
  simp [nv] at hv
  subst hv
  rfl

def lstTo (m : Nat → Nat) (j : Nat) : List Nat := (List.range j).filter (fun i => decide (m i ≠ 0))
def lst (m : Nat → Nat) : List Nat := lstTo m 8
theorem lstTo_zero (m : Nat → Nat) : lstTo m 0 = [] := rfl
theorem lstTo_skip (m : Nat → Nat) (j : Nat) (h : m j = 0) : lstTo m (j + 1) = lstTo m j := by simp [lstTo, List.range_succ, h]
theorem lstTo_take (m : Nat → Nat) (j : Nat) (h : m j ≠ 0) : lstTo m (j + 1) = lstTo m j ++ [j] := by simp [lstTo, List.range_succ, h]
theorem lstTo_le (m : Nat → Nat) (j n : Nat) (h : j ≤ n) : ∃ r, lstTo m n = lstTo m j ++ r := by
  induction n with
  | zero => obtain rfl : j = 0 := by omega
            exact ⟨[], by simp⟩
  | succ n ih =>
    by_cases hj : j = n + 1
    · exact ⟨[], by simp [hj]⟩
    · obtain ⟨r, hr⟩ := ih (by omega)
      by_cases hm : m n = 0
      · exact ⟨r, by rw [lstTo_skip m n hm, hr]⟩
      · exact ⟨r ++ [n], by rw [lstTo_take m n hm, hr, List.append_assoc]⟩
theorem lst_first (m : Nat → Nat) (j : Nat) (h0 : lstTo m j = []) (hj : j < 8) (h : m j ≠ 0) : ∃ r, lst m = j :: r := by
  obtain ⟨r, hr⟩ := lstTo_le m (j + 1) 8 (by omega)
  exact ⟨r, by rw [lst, hr, lstTo_take m j h, h0]; rfl⟩
theorem lstTo_len (m : Nat → Nat) (j : Nat) : (lstTo m j).length ≤ j := by
  have := List.length_filter_le (fun i => decide (m i ≠ 0)) (List.range j)
  rwa [List.length_range] at this
theorem lst_len (m : Nat → Nat) : (lst m).length ≤ 8 := lstTo_len m 8

theorem infoInt : ∃ i z, Try.prog.info? 3 = some i ∧ i.zero = some z ∧ i.size = 1 ∧ i.bytes = 8 ∧ z.cells.size = 1 := by
  have h : (Try.prog.info? 3).map (fun i => (i.zero, i.size, i.bytes)) = some (some (.int .i64 0), 1, 8) := by kernel_rfl
  obtain ⟨i, hi, h0, h1, h2⟩ := info_parts h
  exact ⟨i, _, hi, h0, h1, h2, rfl⟩
theorem bsNat (x : Nat) (w : World) : (Instr.buildSlice 76 1 #[(0, .int .i64 (x : Int))]).run Try.prog w = .ok (.slice (some ⟨w.heap.size, 0, none⟩) 1 1) (w.alloc (.cells (nv x).toArray 3)) := by kernel_rfl
theorem bsNone (w : World) : (Instr.buildSlice 76 0 #[]).run Try.prog w = .ok (.slice (some ⟨w.heap.size, 0, none⟩) 0 0) (w.alloc (.cells #[] 3)) := by kernel_rfl
theorem box_nat {ops : Array Oper} {rest : List Oper} {op : Oper} {a : Act} {w : World} {Q : Exit → Act → World → Prop} (hgd : op.guard = none) (x : Operand) (ho : op.op = .buildSlice 76 1 #[(0, x)]) (n : Nat) (hx : a.eval x = .int .i64 (n : Int))
    (h : wpList Try.prog ops Q rest (a.put op.dst (.slice (some ⟨w.heap.size, 0, none⟩) 1 1)) (w.alloc (.cells (nv n).toArray 3))) : wpList Try.prog ops Q (op :: rest) a w :=
  wpList_plain hgd fun _ hK => by
    have hk := hK _ _ h
    unfold Oper.wp execOp
    simp only [ho, List.map_toArray, List.map_cons, List.map_nil, hx, Sem.run_bind, Sem.run_pure, bsNat, Result.andThen_ok]
    exact hk

/- What List answers: a list that was made since. -/
def Listed (m : Nat → Nat) (B : Nat) (e : Ending) (w' : World) : Prop := ∃ a c, e = .returned (.slice a (lst m).length c) ∧ Li nv B a (lst m) w'

set_option maxHeartbeats 4000000 in
theorem list_ok (m : Nat → Nat) (w : World) : Calls Try.prog 42 #[.agg (mbc m)] w fun e w' => Listed m w.heap.size e w' ∧ Below w.heap.size w w' := by
  have b1 := blk_new w (mbc m) 29
  have hB : Below w.heap.size w (w.alloc (.cells (mbc m) 29)) := below_box w _
  have hlt : w.heap.size < (w.alloc (.cells (mbc m) 29)).heap.size := by simp
  obtain ⟨W, hW⟩ : ∃ W, w.alloc (.cells (mbc m) 29) = W := ⟨_, rfl⟩
  rw [hW] at b1 hB hlt
  obtain ⟨iI, zI, hI, hz0, hsz, hby, hzs⟩ := infoInt
  go_enter Try.func42, Try.ntmps42
  go_wp2_with (refine load_blk rfl 29 _ rfl b1 rfl Try.underlying29 rfl sizeMb ?_)
  go_loopw [3, 7] (fun lv iv wr => ∃ (j n cap : Nat) (ad : Option Addr), j ≤ 8 ∧ n ≤ 8 ∧ iv = .int .i64 j ∧ lv = .slice ad n cap ∧ Hid ((lstTo m j).length = n) ∧ Lg nv 1 3 W.heap.size ad cap (lstTo m j) wr ∧ Below w.heap.size w wr ∧ W.heap.size ≤ wr.heap.size) (fun _ iv _ => 8 - (intOf iv).toNat)
  case atStart => exact ⟨0, 0, 0, none, by omega, by omega, rfl, rfl, congrArg List.length (lstTo_zero m), Lg.none _ _ _, hB, Nat.le_refl _⟩
  case round =>
    clear hB
    obtain ⟨j, n, cap, ad, hj, hn, rfl, rfl, h0, hg, hb, hs⟩ := hrel
    by_cases hj8 : j < 8
    · have j0 : (j : Int) < 8 := by omega
      have hix := indexMb m j hj8
      have hle := lstTo_len m j
      rw [h0.out] at hle
      by_cases hm : m j = 0
      · have HS : Hid ((lstTo m (j + 1)).length = n) := by rw [lstTo_skip m j hm]; exact h0.out
        have hm' : (m j : Int) = 0 := by omega
        rw [← lstTo_skip m j hm] at hg
        clear b1 h0 hm hle hI
        go_wp2_with fail
        refine ⟨⟨j + 1, n, cap, ad, by omega, by omega, by go_num, rfl, HS, hg, hb, hs⟩, by simp [intOf]; omega⟩
      · have HS : Hid ((lstTo m (j + 1)).length = n + 1) := by
          show (lstTo m (j + 1)).length = n + 1
          rw [lstTo_take m j hm, List.length_append, h0.out]; rfl
        have hm' : ¬ (m j : Int) = 0 := by omega
        have hst := lstTo_take m j hm
        have hg2 := hg.below (below_box wr (.cells (nv j).toArray 3))
        have hx := (li_box (f := nv) wr j 3 0 (Nat.zero_le _)).src (P := Try.prog) nv_length nv_one Try.underlying76 1
        have hs2 : W.heap.size ≤ (wr.alloc (.cells (nv j).toArray 3)).heap.size := by simp; omega
        have hb2 : Below w.heap.size w (wr.alloc (.cells (nv j).toArray 3)) := hb.alloc hb.size _
        have hlen := h0.out
        clear b1 h0 hm hg
        go_wp2_with (first | refine box_nat rfl _ rfl j rfl ?_ | (refine append_lg nv_length rfl _ _ rfl Try.underlying76 hI hz0 hsz hby hzs hg2 hs2 hlen rfl (M := [j]) (by simp) hx rfl (by simp; omega) (by simp [maxLen]; omega) ?_; intro ad' cap' w5 hg5 hb5; rw [← hst] at hg5; have hb6 : Below w.heap.size w w5 := hb2.trans (hb5.mono (by omega)); have hs6 : W.heap.size ≤ w5.heap.size := Nat.le_trans hs2 hb5.size))
        refine ⟨⟨j + 1, n + 1, cap', ad', by omega, by omega, by go_num, rfl, HS, hg5, hb6, hs6⟩, by simp [intOf]; omega⟩
    · obtain rfl : j = 8 := by omega
      have hfin : Listed m w.heap.size (.returned (.slice ad n cap)) wr := ⟨ad, cap, by rw [← h0.out]; rfl, hg.li.mono (by omega)⟩
      clear b1 h0 hg hI
      go_wp2_with fail
      go_ret
      exact ⟨hfin, hb⟩

def hasM (m : Nat → Nat) (i : Int) (n : Nat) : Bool := decide (0 ≤ i ∧ i < 8 ∧ n ≠ 0 ∧ m i.toNat = n)

def sameM (a b : Nat → Nat) : Nat → Nat := fun i => if a i = b i then a i else 0
def sameTo (a b : Nat → Nat) (j : Nat) : Nat → Nat := fun i => if i < j then sameM a b i else 0
theorem same_zero (a b : Nat → Nat) : mbc (sameTo a b 0) = mbc noMb := rfl
theorem same_full (a b : Nat → Nat) : mbc (sameTo a b 8) = mbc (sameM a b) := rfl
theorem same_set (a b : Nat → Nat) (j : Nat) (hj : j < 8) (h : a j = b j) : (mbc (sameTo a b j)).setIfInBounds j (.int .u32 (a j : Int)) = mbc (sameTo a b (j + 1)) := by
  rw [mbc_set _ j _ hj]
  apply mbc_ext
  intro i hi
  unfold sameTo sameM
  by_cases e : i = j
  · subst e; simp [h]
  · by_cases l : i < j
    · simp [e, l, show i < j + 1 by omega]
    · simp [e, l, show ¬ i < j + 1 by omega]
theorem same_skip (a b : Nat → Nat) (j : Nat) (h : a j = b j → a j = 0) : mbc (sameTo a b j) = mbc (sameTo a b (j + 1)) := by
  apply mbc_ext
  intro i hi
  unfold sameTo sameM
  by_cases e : i = j
  · subst e
    by_cases l : a i = b i
    · rw [if_neg (by omega), if_pos (by omega), if_pos l, h l]
    · rw [if_neg (by omega), if_pos (by omega), if_neg l]
  · by_cases l : i < j
    · simp [l, show i < j + 1 by omega]
    · simp [l, show ¬ i < j + 1 by omega]

end Go.Proofs.Ytmnpbjaofemelaa
