/-
  What some have together, and whether one has no more than another one: what the calls answer, and what the document says.
  No condition.
-/
import Derived.Test.YtbmhfnallpcmpaaHd
import Derived.Test.YtbmhfnallpcmpaaCtU
namespace Go.Proofs.Ytbmhfnallpcmpaa
set_option maxRecDepth 10000
open Go.RowKit Go.Sort
set_option linter.unusedVariables false

theorem indexCt (f : Nat → Nat) (i : Nat) (h : i < 8) (w : World) : (Instr.index 29 (.agg (mbc f)) (.int .i64 (i : Int))).run Try.prog w = .ok (.int .u32 (f i : Int)) w := by
  obtain rfl | rfl | rfl | rfl | rfl | rfl | rfl | rfl : i = 0 ∨ i = 1 ∨ i = 2 ∨ i = 3 ∨ i = 4 ∨ i = 5 ∨ i = 6 ∨ i = 7 := by omega
  all_goals kernel_rfl
theorem row8_one (f : Nat → Nat) : ∀ v ∈ row8 f, v.oneCell' = true := by
  intro v hv
  simp [row8] at hv
  rcases hv with rfl | rfl | rfl | rfl | rfl | rfl | rfl | rfl <;> rfl

set_option maxHeartbeats 4000000 in
theorem union_ok (L : List (Nat → Nat)) (la : Option Addr) (lc : Nat) (lm : L.length ≤ 9223372036854775807) (w : World) (lS : Li row8 0 la L w) : Calls Try.prog 37 #[.slice la L.length lc] w fun e w' => e = .returned (.agg (mbc (unionL L))) ∧ Below w.heap.size w w' := by
  obtain ⟨a0, a1, hB⟩ := two_blk (T0 := 29) (T1 := 29) (C0 := mbc noMb) (C1 := mbc noMb) (w := w) rfl
  obtain ⟨R, hR⟩ : ∃ R, Hid (unionL L = R) := ⟨_, rfl⟩
  rw [hR.out]
  obtain ⟨n, hn⟩ : ∃ n, L.length = n := ⟨_, rfl⟩
  rw [hn] at lm ⊢
  have HN : Hid (L.length = n) := hn
  clear hn
  go_enter Try.func37, Try.ntmps37
  go_upto_region 2 with (refine alloc_zero zeroCt rfl rfl ?_)
  try simp only [Act.put, List.setIfInBounds_toArray, List.set_cons_zero, List.set_cons_succ]
  try simp only [alloc_size]
  generalize (w.alloc (Obj.cells (mbc noMb) 29)).alloc (Obj.cells (mbc noMb) 29) = W at a0 a1 hB ⊢
  go_wp2_with fail
  go_loopw [10] (fun iv wr => ∃ j : Nat, j ≤ n ∧ iv = .int .i64 j ∧ Blk w.heap.size (mbc noMb) 29 wr ∧ Blk (w.heap.size + 1) (mbc (unionL (L.take j))) 29 wr ∧ Below w.heap.size w wr) (fun iv _ => n - (intOf iv).toNat)
  case atStart => exact ⟨0, by omega, rfl, a0, a1, hB⟩
  case round =>
    clear a0 a1 hB
    obtain ⟨j, hj, rfl, a0, a1, hB⟩ := hrel
    by_cases hjn : j < n
    · have j0 : (j : Int) < (n : Int) := by omega
      have j1 : (0 : Int) ≤ (j : Int) := by omega
      obtain ⟨c, hc⟩ : ∃ c, L[j]? = some c := ⟨_, List.getElem?_eq_getElem (by rw [HN.out]; exact hjn)⟩
      obtain ⟨b, o, rfl, _, _, hr⟩ := (lS.below hB).at row8_length j c hc
      have HS : Hid (unionL (L.take (j + 1)) = maxC (unionL (L.take j)) c) := unionL_take L j c hc
      generalize unionL (L.take j) = u at a1 HS
      have a2 := blk_new wr (mbc c) 29
      have e0 := a0.alloc (.cells (mbc c) 29)
      have e1 := a1.alloc (.cells (mbc c) 29)
      have hE : Below w.heap.size w (wr.alloc (.cells (mbc c) 29)) := hB.alloc hB.size _
      have hV : w.heap.size + 1 < wr.heap.size := a1.lt
      rw [← maxTo_zero u c] at e1
      clear hc a0 a1 hB
      go_upto_region 5 with (first | refine load_range rfl 29 _ rfl (row8 c) hr rfl Try.underlying29 rfl sizeCt ?_ | refine alloc_zero zeroCt rfl rfl ?_ | refine store_new rfl 29 _ _ rfl (cells := mbc c) rfl rfl sizeCt rfl (mbc_one _) ?_)
      try simp only [Act.put, List.setIfInBounds_toArray, List.set_cons_zero, List.set_cons_succ]
      generalize wr.alloc (Obj.cells (mbc c) 29) = V at a2 e0 e1 hE ⊢
      clear hr
      generalize wr.heap.size = vs at a2 hV ⊢
      go_wp2_with (refine load_blk rfl 29 _ rfl a2 rfl Try.underlying29 rfl sizeCt ?_)
      go_loopw [15] (fun iv wr => ∃ i : Nat, i ≤ 8 ∧ iv = .int .i64 i ∧ Blk w.heap.size (mbc noMb) 29 wr ∧ Blk (w.heap.size + 1) (mbc (maxTo u c i)) 29 wr ∧ Below w.heap.size w wr) (fun iv _ => 8 - (intOf iv).toNat)
      case atStart => exact ⟨0, by omega, rfl, e0, e1, hE⟩
      case round =>
        clear a2 e0 e1 hE
        obtain ⟨i, hi, rfl, a0, a1, hB⟩ := hrel
        by_cases hi8 : i < 8
        · have i0 : (i : Int) < 8 := by omega
          have i1 : (0 : Int) ≤ (i : Int) := by omega
          have hix := indexCt c i hi8
          have c0 := a1.cell i _ (mbc_get _ i hi8)
          rw [maxTo_at] at c0
          by_cases hm : u i < c i
          · have hst := maxTo_set u c i hi8 (c i) (by omega)
            have hm' : (u i : Int) < (c i : Int) := by omega
            clear hm
            go_wp2_with (refine store_one rfl 22 _ _ rfl (off := i) (.int .u32 (c i : Int)) a1 rfl rfl rfl rfl sizeU32 (by rw [mbc_size]; omega) ?_; intro w2 b2 k2; rw [hst] at b2; have f0 := a0.kp1 k2 (by omega); have hB2 : Below w.heap.size w w2 := hB.trans (k2.below1 (by omega) hB.size))
            exact ⟨⟨i + 1, by omega, by go_num, f0, b2, hB2⟩, by simp [intOf]; omega⟩
          · have hst := maxTo_set u c i hi8 (u i) (by omega)
            have hm' : ¬ (u i : Int) < (c i : Int) := by omega
            clear hm
            go_wp2_with (refine store_one rfl 22 _ _ rfl (off := i) (.int .u32 (u i : Int)) a1 rfl rfl rfl rfl sizeU32 (by rw [mbc_size]; omega) ?_; intro w2 b2 k2; rw [hst] at b2; have f0 := a0.kp1 k2 (by omega); have hB2 : Below w.heap.size w w2 := hB.trans (k2.below1 (by omega) hB.size))
            exact ⟨⟨i + 1, by omega, by go_num, f0, b2, hB2⟩, by simp [intOf]; omega⟩
        · obtain rfl : i = 8 := by omega
          rw [maxTo_full, ← HS.out] at a1
          go_wp2_with fail
          exact ⟨⟨j + 1, by omega, by go_num, a0, a1, hB⟩, by simp [intOf]; omega⟩
    · obtain rfl : j = n := by omega
      rw [List.take_of_length_le (by rw [HN.out]; omega), hR.out] at a1
      have hpa : putAt (mbc noMb) 0 (mbc R).toList = mbc R := putAt_all _ _ rfl
      clear lS HN hR
      go_wp2_with (first | refine load_blk rfl 29 _ rfl a1 rfl Try.underlying29 rfl sizeCt ?_ | (refine store_part rfl 29 _ _ rfl (off := 0) (cells := mbc R) a0 rfl rfl sizeCt (Nat.le_refl _) (mbc_one _) ?_; intro w2 b2 k2; rw [hpa] at b2; have hB2 : Below w.heap.size w w2 := hB.trans (k2.below1 (Nat.le_refl _) hB.size)))
      exact bodyPost_ret (w := w2) (v := .agg (mbc R)) (ret_one rfl rfl b2 Try.underlying29 rfl sizeCt) rfl ⟨rfl, hB2⟩

end Go.Proofs.Ytbmhfnallpcmpaa
