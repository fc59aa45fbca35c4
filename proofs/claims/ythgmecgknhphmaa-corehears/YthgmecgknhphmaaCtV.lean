/-
  What some have received, together, as the document says: what the call answers.
  No condition.
-/
import Derived.Test.YthgmecgknhphmaaBase
namespace Go.Proofs.Ythgmecgknhphmaa
set_option maxRecDepth 10000
open Go.RowKit Go.Sort
set_option linter.unusedVariables false

set_option maxHeartbeats 4000000 in
theorem runion_ok (L : List (Nat → Nat)) (la : Option Addr) (lc : Nat) (lm : L.length ≤ 9223372036854775807) (w : World) (lS : Li row8 0 la L w) : Calls Try.prog 86 #[.slice la L.length lc] w fun e w' => e = .returned (.agg (mbc (unionL L))) ∧ Below w.heap.size w w' := by
  obtain ⟨a0, a1, hB⟩ := two_blk (T0 := 29) (T1 := 29) (C0 := mbc noMb) (C1 := mbc noMb) (w := w) rfl
  obtain ⟨R, hR⟩ : ∃ R, Hid (unionL L = R) := ⟨_, rfl⟩
  rw [hR.out]
  obtain ⟨n, hn⟩ : ∃ n, L.length = n := ⟨_, rfl⟩
  rw [hn] at lm ⊢
  have HN : Hid (L.length = n) := hn
  clear hn
  go_enter Try.func86, Try.ntmps86
  go_upto_region 2 with (first | refine alloc_zero zeroCt rfl rfl ?_ | refine build_zero builtCt rfl rfl ?_ | refine store_new rfl 29 _ _ rfl (cells := mbc noMb) rfl rfl sizeCt rfl (mbc_one _) ?_)
  try simp only [Act.put, List.setIfInBounds_toArray, List.set_cons_zero, List.set_cons_succ]
  try simp only [alloc_size]
  generalize (w.alloc (Obj.cells (mbc noMb) 29)).alloc (Obj.cells (mbc noMb) 29) = W at a0 a1 hB ⊢
  go_wp2_with fail
  go_loopw [4] (fun iv wr => ∃ j : Nat, j ≤ n ∧ iv = .int .i64 j ∧ Blk w.heap.size (mbc noMb) 29 wr ∧ Blk (w.heap.size + 1) (mbc (unionL (L.take j))) 29 wr ∧ Below w.heap.size w wr) (fun iv _ => n - (intOf iv).toNat)
  case atStart => exact ⟨0, by omega, rfl, a0, a1, hB⟩
  case round =>
    clear a0 a1 hB
    obtain ⟨j, hj, rfl, a0, a1, hB⟩ := hrel
    by_cases hjn : j < n
    · have j0 : (j : Int) < (n : Int) := by omega
      have j1 : (0 : Int) ≤ (j : Int) := by omega
      obtain ⟨c, hc⟩ : ∃ c, L[j]? = some c := ⟨_, List.getElem?_eq_getElem (by rw [HN.out]; exact hjn)⟩
      obtain ⟨b, o, rfl, _, hbl, hr⟩ := lS.at row8_length j c hc
      have HS : Hid (unionL (L.take (j + 1)) = maxC (unionL (L.take j)) c) := unionL_take L j c hc
      generalize unionL (L.take j) = u at a1 HS
      rw [← maxTo_zero u c] at a1
      clear hc
      go_wp2_with fail
      go_loopw [5] (fun iv wr => ∃ i : Nat, i ≤ 8 ∧ iv = .int .i64 i ∧ Blk w.heap.size (mbc noMb) 29 wr ∧ Blk (w.heap.size + 1) (mbc (maxTo u c i)) 29 wr ∧ Below w.heap.size w wr) (fun iv _ => 8 - (intOf iv).toNat)
      case atStart => exact ⟨0, by omega, rfl, a0, a1, hB⟩
      case round =>
        clear a0 a1 hB
        obtain ⟨i, hi, rfl, a0, a1, hB⟩ := hrel
        by_cases hi8 : i < 8
        · have i0 : (i : Int) < 8 := by omega
          have i1 : (0 : Int) ≤ (i : Int) := by omega
          have c0 := a1.cell i _ (mbc_get _ i hi8)
          rw [maxTo_at] at c0
          have c1 : wr.cell? ⟨b, o + j * 8 + i, none⟩ = some (.int .u32 (c i : Int)) := range_block hr (hB.block b hbl) i _ (by have := mbc_get c i hi8; simpa [mbc] using this)
          have e0 := a0.drew
          have e1 := a1.drew
          have hE := hB.drew
          by_cases hm : u i < c i
          · have hst := maxTo_set u c i hi8 (c i) (by omega)
            have hm' : (u i : Int) < (c i : Int) := by omega
            have c3 : wr.drew.cell? ⟨b, o + j * 8 + i, none⟩ = some (.int .u32 (c i : Int)) := c1
            clear hm a0 a1 hB
            go_wp2_with fail
            go_region
            go_wp2_with (refine store_one rfl 22 _ _ rfl (off := i) (.int .u32 (c i : Int)) e1 rfl rfl rfl rfl sizeU32 (by rw [mbc_size]; omega) ?_; intro w2 b2 k2; rw [hst] at b2; have f0 := e0.kp1 k2 (by omega); have hB2 : Below w.heap.size w w2 := hE.trans (k2.below1 (by omega) hE.size))
            exact ⟨⟨i + 1, by omega, by go_num, f0, b2, hB2⟩, by simp [intOf]; omega⟩
          · rw [maxTo_skip u c i (by omega)] at e1
            have hm' : ¬ (u i : Int) < (c i : Int) := by omega
            clear hm a0 a1 hB
            go_wp2_with fail
            go_region
            go_wp2_with fail
            exact ⟨⟨i + 1, by omega, by go_num, e0, e1, hE⟩, by simp [intOf]; omega⟩
        · obtain rfl : i = 8 := by omega
          rw [maxTo_full, ← HS.out] at a1
          clear hr
          go_wp2_with fail
          exact ⟨⟨j + 1, by omega, by go_num, a0, a1, hB⟩, by simp [intOf]; omega⟩
    · obtain rfl : j = n := by omega
      rw [List.take_of_length_le (by rw [HN.out]; omega), hR.out] at a1
      have hpa : putAt (mbc noMb) 0 (mbc R).toList = mbc R := putAt_all _ _ rfl
      clear lS HN hR
      go_wp2_with (first | refine load_blk rfl 29 _ rfl a1 rfl Try.underlying29 rfl sizeCt ?_ | (refine store_part rfl 29 _ _ rfl (off := 0) (cells := mbc R) a0 rfl rfl sizeCt (Nat.le_refl _) (mbc_one _) ?_; intro w2 b2 k2; rw [hpa] at b2; have hB2 : Below w.heap.size w w2 := hB.trans (k2.below1 (Nat.le_refl _) hB.size)))
      exact bodyPost_ret (w := w2) (v := .agg (mbc R)) (ret_one rfl rfl b2 Try.underlying29 rfl sizeCt) rfl ⟨rfl, hB2⟩

end Go.Proofs.Ythgmecgknhphmaa
