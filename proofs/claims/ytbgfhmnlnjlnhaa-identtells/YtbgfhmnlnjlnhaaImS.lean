/-
  The document's answers: who is in members, who in two of them, whether two lists are the same.
  No condition.
-/
import Derived.Test.YtbgfhmnlnjlnhaaImR
namespace Go.Proofs.Ytbgfhmnlnjlnhaa
set_option maxRecDepth 10000
open Go.RowKit Go.Sort

set_option maxHeartbeats 4000000 in
theorem rlist_ok (m : Nat → Nat) (w : World) : Calls Try.prog 8 #[.agg (mbc m)] w fun e w' => Listed m w.heap.size e w' ∧ Below w.heap.size w w' := by
  have b1 := blk_new w (mbc m) 26
  have hB : Below w.heap.size w (w.alloc (.cells (mbc m) 26)) := below_box w _
  have hlt : w.heap.size < (w.alloc (.cells (mbc m) 26)).heap.size := by simp
  obtain ⟨W, hW⟩ : ∃ W, w.alloc (.cells (mbc m) 26) = W := ⟨_, rfl⟩
  rw [hW] at b1 hB hlt
  have o1 := Ow.empty (f := nv) (k := 1) (blk_new W #[] 3)
  have b2 := b1.alloc (.cells #[] 3)
  have hB2 : Below w.heap.size w (W.alloc (.cells #[] 3)) := hB.alloc hB.size _
  have hs2 : W.heap.size ≤ (W.alloc (.cells #[] 3)).heap.size := by simp
  obtain ⟨iI, zI, hI, hz0, hsz, hby, hzs⟩ := infoInt
  clear hB
  go_enter Try.func8, Try.ntmps8
  go_wp2_with fail
  go_loopw [3, 4] (fun lv iv wr => ∃ (j n cap : Nat) (ad : Option Addr), j ≤ 8 ∧ n ≤ 8 ∧ iv = .int .i64 j ∧ lv = .slice ad n cap ∧ Hid ((lstTo m j).length = n) ∧ Lg nv 1 3 W.heap.size ad cap (lstTo m j) wr ∧ Below w.heap.size w wr ∧ W.heap.size ≤ wr.heap.size ∧ Blk w.heap.size (mbc m) 26 wr) (fun _ iv _ => 8 - (intOf iv).toNat)
  case atStart => exact ⟨0, 0, 0, _, by omega, by omega, rfl, rfl, congrArg List.length (lstTo_zero m), Lg.of o1 (Nat.le_refl _), hB2, hs2, b2⟩
  case round =>
    clear hB2 hs2 b2 b1 o1
    obtain ⟨j, n, cap, ad, hj, hn, rfl, rfl, h0, hg, hb, hs, b1⟩ := hrel
    by_cases hj8 : j < 8
    · have j0 : (j : Int) < 8 := by omega
      have j1 : (0 : Int) ≤ (j : Int) := by omega
      have c0 := b1.cell j _ (mbc_get m j hj8)
      have hle := lstTo_len m j
      rw [h0.out] at hle
      by_cases hm : m j = 0
      · have HS : Hid ((lstTo m (j + 1)).length = n) := by rw [lstTo_skip m j hm]; exact h0.out
        have hm' : (m j : Int) = 0 := by omega
        rw [hm'] at c0
        rw [← lstTo_skip m j hm] at hg
        clear h0 hm hle hI hm'
        go_wp2_with fail
        refine ⟨⟨j + 1, n, cap, ad, by omega, by omega, by go_num, rfl, HS, hg, hb, hs, b1⟩, by simp [intOf]; omega⟩
      · have HS : Hid ((lstTo m (j + 1)).length = n + 1) := by
          show (lstTo m (j + 1)).length = n + 1
          rw [lstTo_take m j hm, List.length_append, h0.out]; rfl
        have hm' : (0 : Int) < (m j : Int) := by omega
        have hst := lstTo_take m j hm
        have hg2 := hg.below (below_box wr (.cells (nv j).toArray 3))
        have hx := (li_box (f := nv) wr j 3 0 (Nat.zero_le _)).src (P := Try.prog) nv_length nv_one Try.underlying29 1
        have hs2 : W.heap.size ≤ (wr.alloc (.cells (nv j).toArray 3)).heap.size := by simp; omega
        have hb2 : Below w.heap.size w (wr.alloc (.cells (nv j).toArray 3)) := hb.alloc hb.size _
        have b2 := b1.alloc (.cells (nv j).toArray 3)
        have hlen := h0.out
        clear h0 hm hg
        go_wp2_with (first | refine box_nat rfl _ rfl j rfl ?_ | (refine append_lg nv_length rfl _ _ rfl Try.underlying29 hI hz0 hsz hby hzs hg2 hs2 hlen rfl (M := [j]) (by simp) hx rfl (by simp; omega) (by simp [maxLen]; omega) ?_; intro ad' cap' w5 hg5 hb5; rw [← hst] at hg5; have hb6 : Below w.heap.size w w5 := hb2.trans (hb5.mono (by omega)); have hs6 : W.heap.size ≤ w5.heap.size := Nat.le_trans hs2 hb5.size; have b6 : Blk w.heap.size (mbc m) 26 w5 := (hb5.block _ hlt).trans b2))
        refine ⟨⟨j + 1, n + 1, cap', ad', by omega, by omega, by go_num, rfl, HS, hg5, hb6, hs6, b6⟩, by simp [intOf]; omega⟩
    · obtain rfl : j = 8 := by omega
      have hfin : Listed m w.heap.size (.returned (.slice ad n cap)) wr := ⟨ad, cap, by rw [← h0.out]; rfl, hg.li.mono (by omega)⟩
      clear b1 h0 hg hI
      go_wp2_with fail
      go_ret
      exact ⟨hfin, hb⟩

set_option maxHeartbeats 4000000 in
theorem rsame_ok (a b : Nat → Nat) (w : World) : Calls Try.prog 17 #[.agg (mbc a), .agg (mbc b)] w fun e w' => e = .returned (.agg (mbc (sameM a b))) ∧ Below w.heap.size w w' := by
  obtain ⟨a1, a2, a3, a4, hB⟩ := four_blk (T0 := 26) (T1 := 26) (T2 := 26) (T3 := 26) (C0 := mbc a) (C1 := mbc b) (C2 := mbc noMb) (C3 := mbc noMb) (w := w) rfl
  rw [← same_zero a b] at a4
  go_enter Try.func17, Try.ntmps17
  go_wp2_with (first | refine alloc_zero zeroMb rfl rfl ?_ | refine build_zero builtMb rfl rfl ?_ | refine store_new rfl 26 _ _ rfl (cells := mbc noMb) rfl rfl sizeMb rfl (mbc_one noMb) ?_)
  go_loopw [6] (fun iv wr => ∃ j : Nat, j ≤ 8 ∧ iv = .int .i64 j ∧ Blk w.heap.size (mbc a) 26 wr ∧ Blk (w.heap.size + 1) (mbc b) 26 wr ∧ Blk (w.heap.size + 1 + 1) (mbc noMb) 26 wr ∧ Blk (w.heap.size + 1 + 1 + 1) (mbc (sameTo a b j)) 26 wr ∧ Below w.heap.size w wr) (fun iv _ => 8 - (intOf iv).toNat)
  case atStart => exact ⟨0, by omega, rfl, a1, a2, a3, a4, hB⟩
  case round =>
    clear a1 a2 a3 a4 hB
    obtain ⟨j, hj, rfl, a1, a2, a3, a4, hB⟩ := hrel
    by_cases hj8 : j < 8
    · have j0 : (j : Int) < 8 := by omega
      have j1 : (0 : Int) ≤ (j : Int) := by omega
      have c0 := a1.cell j _ (mbc_get a j hj8)
      have c1 := a2.cell j _ (mbc_get b j hj8)
      by_cases hab : a j = b j
      · have hst := same_set a b j hj8 hab
        rw [← hab] at c1
        have d1 := a1.drew
        have d2 := a2.drew
        have d3 := a3.drew
        have d4 := a4.drew
        have hD := hB.drew
        have c2 : wr.drew.cell? ⟨w.heap.size, j, none⟩ = some (.int .u32 (a j : Int)) := c0
        clear hab a1 a2 a3 a4 hB
        go_wp2_with fail
        go_region
        go_wp2_with (refine store_one rfl 22 _ _ rfl (off := j) (.int .u32 (a j : Int)) d4 rfl rfl rfl rfl sizeU32 (by rw [mbc_size]; omega) ?_; intro w2 b2 k2; rw [hst] at b2; have e1 := d1.kp k2 (by simp; omega); have e2 := d2.kp k2 (by simp); have e3 := d3.kp k2 (by simp); have hB2 : Below w.heap.size w w2 := hD.trans (k2.below (by simp; omega) hD.size))
        exact ⟨⟨j + 1, by omega, by go_num, e1, e2, e3, b2, hB2⟩, by simp [intOf]; omega⟩
      · rw [same_skip a b j (fun h => absurd h hab)] at a4
        have hab' : ¬ (a j : Int) = (b j : Int) := by omega
        have d1 := a1.drew
        have d2 := a2.drew
        have d3 := a3.drew
        have d4 := a4.drew
        have hD := hB.drew
        clear hab a1 a2 a3 a4 hB
        go_wp2_with fail
        go_region
        go_wp2_with fail
        exact ⟨⟨j + 1, by omega, by go_num, d1, d2, d3, d4, hD⟩, by simp [intOf]; omega⟩
    · obtain rfl : j = 8 := by omega
      rw [same_full] at a4
      have hpa : putAt (mbc noMb) 0 (mbc (sameM a b)).toList = mbc (sameM a b) := putAt_all _ _ rfl
      go_wp2_with (first | refine load_blk rfl 26 _ rfl a4 rfl Try.underlying26 rfl sizeMb ?_ | (refine store_part rfl 26 _ _ rfl (off := 0) (cells := mbc (sameM a b)) a3 rfl rfl sizeMb (by simp [mbc_size]) (mbc_one _) ?_; intro w2 b2 k2; rw [hpa] at b2; have hB2 : Below w.heap.size w w2 := hB.trans (k2.below (by simp; omega) hB.size)))
      refine bodyPost_ret (w := w2) (v := .agg (mbc (sameM a b))) (ret_one rfl rfl b2 Try.underlying26 rfl sizeMb) rfl ⟨rfl, hB2⟩

set_option maxHeartbeats 2000000 in
theorem ints_ok (L : List Nat) (la lb : Option Addr) (ca cb : Nat) (lm : L.length ≤ 9223372036854775807) (w : World) (hA : Li nv 0 la L w) (hB : Li nv 0 lb L w) : Calls Try.prog 13 #[.slice la L.length ca, .slice lb L.length cb] w fun e w' => e = .returned (.bool true) ∧ Below w.heap.size w w' := by
  obtain ⟨n, hn⟩ : ∃ n, L.length = n := ⟨_, rfl⟩
  rw [hn] at lm ⊢
  have HN : Hid (L.length = n) := hn
  clear hn
  go_enter Try.func13, Try.ntmps13
  go_wp2_with fail
  go_loopw [5] (fun iv wr => ∃ j : Nat, j ≤ n ∧ iv = .int .i64 j ∧ Below w.heap.size w wr) (fun iv _ => n - (intOf iv).toNat)
  case atStart => exact ⟨0, by omega, rfl, Below.refl _ _⟩
  case round =>
    obtain ⟨j, hj, rfl, hb⟩ := hrel
    by_cases hjn : j < n
    · have j0 : (j : Int) < (n : Int) := by omega
      have j1 : (0 : Int) ≤ (j : Int) := by omega
      obtain ⟨x, hx⟩ : ∃ x, L[j]? = some x := ⟨_, List.getElem?_eq_getElem (by rw [HN.out]; exact hjn)⟩
      obtain ⟨b, o, rfl, _, hbl, hr⟩ := hA.at nv_length j x hx
      obtain ⟨b', o', rfl, _, hbl', hr'⟩ := hB.at nv_length j x hx
      have c0 : wr.cell? ⟨b, o + j, none⟩ = some (.int .i64 (x : Int)) := by have := range_block hr (hb.block b hbl) 0 _ rfl; simpa using this
      have c1 : wr.cell? ⟨b', o' + j, none⟩ = some (.int .i64 (x : Int)) := by have := range_block hr' (hb.block b' hbl') 0 _ rfl; simpa using this
      have hd := hb.drew
      clear hx hr hr' hb
      go_wp2_with fail
      go_region
      go_wp2_with fail
      exact ⟨⟨j + 1, by omega, by go_num, hd⟩, by simp [intOf]; omega⟩
    · obtain rfl : j = n := by omega
      clear hA hB HN
      go_wp2_with fail
      go_ret
      exact ⟨rfl, hb⟩

end Go.Proofs.Ytbgfhmnlnjlnhaa
