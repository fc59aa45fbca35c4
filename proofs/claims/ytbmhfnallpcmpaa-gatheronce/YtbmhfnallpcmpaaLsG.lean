/-
  What List answers, as a row that the call made.
  No condition.
-/
import Derived.Test.YtbmhfnallpcmpaaLs
namespace Go.Proofs.Ytbmhfnallpcmpaa
set_option maxRecDepth 10000
open Go.RowKit Go.Sort

theorem Lg.mono {α : Type} {f : α → List Value} {k : Nat} {T : TypeId} {B B' : Nat} {a : Option Addr} {cap : Nat} {L : List α} {w : World} (h : Lg f k T B a cap L w) (hB : B' ≤ B) : Lg f k T B' a cap L w := by
  rcases h with h | ⟨g, e, h1, h2⟩
  · exact .inl h
  · exact .inr ⟨g, e, Nat.le_trans hB h1, h2⟩
def ListedG (m : Nat → Nat) (B : Nat) (e : Ending) (w' : World) : Prop := ∃ a c, e = .returned (.slice a (lst m).length c) ∧ Lg nv 1 3 B a c (lst m) w'

set_option maxHeartbeats 4000000 in
theorem list_lg (m : Nat → Nat) (w : World) : Calls Try.prog 45 #[.agg (mbc m)] w fun e w' => ListedG m w.heap.size e w' ∧ Below w.heap.size w w' := by
  have b1 := blk_new w (mbc m) 28
  have hB : Below w.heap.size w (w.alloc (.cells (mbc m) 28)) := below_box w _
  have hlt : w.heap.size < (w.alloc (.cells (mbc m) 28)).heap.size := by simp
  obtain ⟨W, hW⟩ : ∃ W, w.alloc (.cells (mbc m) 28) = W := ⟨_, rfl⟩
  rw [hW] at b1 hB hlt
  obtain ⟨iI, zI, hI, hz0, hsz, hby, hzs⟩ := infoInt
  go_enter Try.func45, Try.ntmps45
  go_wp2_with (refine load_blk rfl 28 _ rfl b1 rfl Try.underlying28 rfl sizeMb ?_)
  go_loopw [3, 7] (fun lv iv wr => ∃ (j n cap : Nat) (ad : Option Addr), j ≤ 8 ∧ n ≤ 8 ∧ iv = .int .i64 j ∧ lv = .slice ad n cap ∧ Hid ((lstTo m j).length = n) ∧ Lg nv 1 3 W.heap.size ad cap (lstTo m j) wr ∧ Below w.heap.size w wr ∧ W.heap.size ≤ wr.heap.size) (fun _ iv _ => 8 - (intOf iv).toNat)
  case atStart => exact ⟨0, 0, 0, none, by omega, by omega, rfl, rfl, congrArg List.length (lstTo_zero m), Lg.none _ _ _, hB, Nat.le_refl _⟩
  case round =>
    clear hB
    obtain ⟨j, n, cap, ad, hj, hn, rfl, rfl, h0, hg, hb, hs⟩ := hrel
    by_cases hj8 : j < 8
    · have j0 : (j : Int) < 8 := by omega
      have hix := indexMb m j hj8
      have hle := lstTo_len m j
      rw [h0.out] at hle
      by_cases hm : m j = 0
      · have HS : Hid ((lstTo m (j + 1)).length = n) := by rw [lstTo_skip m j hm]; exact h0.out
        have hm' : (m j : Int) = 0 := by omega
        rw [← lstTo_skip m j hm] at hg
        clear b1 h0 hm hle hI
        go_wp2_with fail
        refine ⟨⟨j + 1, n, cap, ad, by omega, by omega, by go_num, rfl, HS, hg, hb, hs⟩, by simp [intOf]; omega⟩
      · have HS : Hid ((lstTo m (j + 1)).length = n + 1) := by
          show (lstTo m (j + 1)).length = n + 1
          rw [lstTo_take m j hm, List.length_append, h0.out]; rfl
        have hm' : ¬ (m j : Int) = 0 := by omega
        have hst := lstTo_take m j hm
        have hg2 := hg.below (below_box wr (.cells (nv j).toArray 3))
        have hx := (li_box (f := nv) wr j 3 0 (Nat.zero_le _)).src (P := Try.prog) nv_length nv_one Try.underlying60 1
        have hs2 : W.heap.size ≤ (wr.alloc (.cells (nv j).toArray 3)).heap.size := by simp; omega
        have hb2 : Below w.heap.size w (wr.alloc (.cells (nv j).toArray 3)) := hb.alloc hb.size _
        have hlen := h0.out
        clear b1 h0 hm hg
        go_wp2_with (first | refine box_nat rfl _ rfl j rfl ?_ | (refine append_lg nv_length rfl _ _ rfl Try.underlying60 hI hz0 hsz hby hzs hg2 hs2 hlen rfl (M := [j]) (by simp) hx rfl (by simp; omega) (by simp [maxLen]; omega) ?_; intro ad' cap' w5 hg5 hb5; rw [← hst] at hg5; have hb6 : Below w.heap.size w w5 := hb2.trans (hb5.mono (by omega)); have hs6 : W.heap.size ≤ w5.heap.size := Nat.le_trans hs2 hb5.size))
        refine ⟨⟨j + 1, n + 1, cap', ad', by omega, by omega, by go_num, rfl, HS, hg5, hb6, hs6⟩, by simp [intOf]; omega⟩
    · obtain rfl : j = 8 := by omega
      have hfin : ListedG m w.heap.size (.returned (.slice ad n cap)) wr := ⟨ad, cap, by rw [← h0.out]; rfl, hg.mono (by omega)⟩
      clear b1 h0 hg hI
      go_wp2_with fail
      go_ret
      exact ⟨hfin, hb⟩

end Go.Proofs.Ytbmhfnallpcmpaa
