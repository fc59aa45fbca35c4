/-
  The document's answers: who is in members, who in two of them, whether two lists are the same.
  No condition.
-/
import Derived.Test.YtmnpbjaofemelaaLs
namespace Go.Proofs.Ytmnpbjaofemelaa
set_option maxRecDepth 10000
open Go.RowKit Go.Sort

set_option maxHeartbeats 4000000 in
theorem rlist_ok (m : Nat → Nat) (w : World) : Calls Try.prog 47 #[.agg (mbc m)] w fun e w' => Listed m w.heap.size e w' ∧ Below w.heap.size w w' := by
  have b1 := blk_new w (mbc m) 29
  have hB : Below w.heap.size w (w.alloc (.cells (mbc m) 29)) := below_box w _
  have hlt : w.heap.size < (w.alloc (.cells (mbc m) 29)).heap.size := by simp
  obtain ⟨W, hW⟩ : ∃ W, w.alloc (.cells (mbc m) 29) = W := ⟨_, rfl⟩
  rw [hW] at b1 hB hlt
  have o1 := Ow.empty (f := nv) (k := 1) (blk_new W #[] 3)
  have b2 := b1.alloc (.cells #[] 3)
  have hB2 : Below w.heap.size w (W.alloc (.cells #[] 3)) := hB.alloc hB.size _
  have hs2 : W.heap.size ≤ (W.alloc (.cells #[] 3)).heap.size := by simp
  obtain ⟨iI, zI, hI, hz0, hsz, hby, hzs⟩ := infoInt
  clear hB
  go_enter Try.func47, Try.ntmps47
  go_wp2_with fail
  go_loopw [3, 4] (fun lv iv wr => ∃ (j n cap : Nat) (ad : Option Addr), j ≤ 8 ∧ n ≤ 8 ∧ iv = .int .i64 j ∧ lv = .slice ad n cap ∧ Hid ((lstTo m j).length = n) ∧ Lg nv 1 3 W.heap.size ad cap (lstTo m j) wr ∧ Below w.heap.size w wr ∧ W.heap.size ≤ wr.heap.size ∧ Blk w.heap.size (mbc m) 29 wr) (fun _ iv _ => 8 - (intOf iv).toNat)
  case atStart => exact ⟨0, 0, 0, _, by omega, by omega, rfl, rfl, congrArg List.length (lstTo_zero m), Lg.of o1 (Nat.le_refl _), hB2, hs2, b2⟩
  case round =>
    clear hB2 hs2 b2 b1 o1
    obtain ⟨j, n, cap, ad, hj, hn, rfl, rfl, h0, hg, hb, hs, b1⟩ := hrel
    by_cases hj8 : j < 8
    · have j0 : (j : Int) < 8 := by omega
      have j1 : (0 : Int) ≤ (j : Int) := by omega
      have c0 := b1.cell j _ (mbc_get m j hj8)
      have hle := lstTo_len m j
      rw [h0.out] at hle
      by_cases hm : m j = 0
      · have HS : Hid ((lstTo m (j + 1)).length = n) := by rw [lstTo_skip m j hm]; exact h0.out
        have hm' : (m j : Int) = 0 := by omega
        rw [hm'] at c0
        rw [← lstTo_skip m j hm] at hg
        clear h0 hm hle hI hm'
        go_wp2_with fail
        refine ⟨⟨j + 1, n, cap, ad, by omega, by omega, by go_num, rfl, HS, hg, hb, hs, b1⟩, by simp [intOf]; omega⟩
      · have HS : Hid ((lstTo m (j + 1)).length = n + 1) := by
          show (lstTo m (j + 1)).length = n + 1
          rw [lstTo_take m j hm, List.length_append, h0.out]; rfl
        have hm' : (0 : Int) < (m j : Int) := by omega
        have hst := lstTo_take m j hm
        have hg2 := hg.below (below_box wr (.cells (nv j).toArray 3))
        have hx := (li_box (f := nv) wr j 3 0 (Nat.zero_le _)).src (P := Try.prog) nv_length nv_one Try.underlying76 1
        have hs2 : W.heap.size ≤ (wr.alloc (.cells (nv j).toArray 3)).heap.size := by simp; omega
        have hb2 : Below w.heap.size w (wr.alloc (.cells (nv j).toArray 3)) := hb.alloc hb.size _
        have b2 := b1.alloc (.cells (nv j).toArray 3)
        have hlen := h0.out
        clear h0 hm hg
        go_wp2_with (first | refine box_nat rfl _ rfl j rfl ?_ | (refine append_lg nv_length rfl _ _ rfl Try.underlying76 hI hz0 hsz hby hzs hg2 hs2 hlen rfl (M := [j]) (by simp) hx rfl (by simp; omega) (by simp [maxLen]; omega) ?_; intro ad' cap' w5 hg5 hb5; rw [← hst] at hg5; have hb6 : Below w.heap.size w w5 := hb2.trans (hb5.mono (by omega)); have hs6 : W.heap.size ≤ w5.heap.size := Nat.le_trans hs2 hb5.size; have b6 : Blk w.heap.size (mbc m) 29 w5 := (hb5.block _ hlt).trans b2))
        refine ⟨⟨j + 1, n + 1, cap', ad', by omega, by omega, by go_num, rfl, HS, hg5, hb6, hs6, b6⟩, by simp [intOf]; omega⟩
    · obtain rfl : j = 8 := by omega
      have hfin : Listed m w.heap.size (.returned (.slice ad n cap)) wr := ⟨ad, cap, by rw [← h0.out]; rfl, hg.li.mono (by omega)⟩
      clear b1 h0 hg hI
      go_wp2_with fail
      go_ret
      exact ⟨hfin, hb⟩

end Go.Proofs.Ytmnpbjaofemelaa
