/-
  Which frame is missing first, and how many lie ahead of a place: what the calls answer.
  Counts are such as a uint32 holds.
-/
import Derived.Test.YtodemfkjieonoaaCtA
import Derived.Test.YtodemfkjieonoaaB6
import Derived.Test.YtodemfkjieonoaaRdC
namespace Go.Proofs.Ytodemfkjieonoaa
set_option maxRecDepth 10000
open Go.RowKit Go.Sort
set_option linter.unusedVariables false

def atP : Option Pl → Pl
  | none => Pl.zero
  | some p => p

set_option maxHeartbeats 8000000 in
theorem first_ok (c most m : Nat → Nat) (hm : ∀ i, most i < 4294967296) (w : World) : Calls Try.prog 20 #[.agg (mbc c), .agg (mbc most), .agg (mbc m)] w fun e w' => e = .returned (.tuple #[.agg (atP (fstM c most m)).arr, .bool (fstM c most m).isSome]) ∧ Below w.heap.size w w' := by
  obtain ⟨a0, a1, a2, a3, a4, hB⟩ := five_blk (T0 := 25) (T1 := 25) (T2 := 26) (T3 := 28) (T4 := 28) (C0 := mbc c) (C1 := mbc most) (C2 := mbc m) (C3 := Pl.zero.arr) (C4 := Pl.zero.arr) (w := w) rfl
  have HR : Hid (bestL (candC c most) (lst m) = fstM c most m) := rfl
  obtain ⟨R, hR⟩ : ∃ R, fstM c most m = R := ⟨_, rfl⟩
  rw [hR] at HR ⊢
  have hm8 := lst_len m
  have HM : Hid (∀ j d, (lst m)[j]? = some d → d < 8) := fun j d h => (at_lst m j d h).1
  have HC : Hid (∀ i, most i < 4294967296) := hm
  have hl := list_ok m
  unfold Listed at hl
  generalize lst m = L at *
  clear hR hm
  go_enter Try.func20, Try.ntmps20
  go_upto_region 2 with (refine alloc_zero zeroPl rfl rfl ?_)
  try simp only [Act.put, List.setIfInBounds_toArray, List.set_cons_zero, List.set_cons_succ]
  try simp only [alloc_size]
  generalize ((((w.alloc (Obj.cells (mbc c) 25)).alloc (Obj.cells (mbc most) 25)).alloc (Obj.cells (mbc m) 26)).alloc (Obj.cells Pl.zero.arr 28)).alloc (Obj.cells Pl.zero.arr 28) = W at a0 a1 a2 a3 a4 hB ⊢
  go_wp2_with (refine load_blk rfl 26 _ rfl a2 rfl Try.underlying26 rfl sizeMb ?_)
  refine (hl _).mono ?_
  rintro r w1 ⟨⟨la, lc, rfl, hS⟩, hb⟩
  have hsz := a4.lt
  replace a0 := a0.below hb
  replace a1 := a1.below hb
  replace a3 := a3.below hb
  replace a4 := a4.below hb
  replace hB := hB.trans (hb.mono hB.size)
  replace hS := hS.mono (B' := w.heap.size + 1 + 1 + 1 + 1 + 1) (by omega)
  clear hb hl a2
  obtain ⟨n, hn⟩ : ∃ n, L.length = n := ⟨_, rfl⟩
  have HN : Hid (L.length = n) := hn
  rw [hn] at hm8 ⊢
  clear hn hsz
  go_wp2_with fail
  go_loopw [9, 16] (fun fv iv wr => ∃ (j : Nat) (q : Option Pl), j ≤ n ∧ iv = .int .i64 j ∧ fv = .bool q.isSome ∧ Hid (bestL (candC c most) (L.take j) = q) ∧ Blk w.heap.size (mbc c) 25 wr ∧ Blk (w.heap.size + 1) (mbc most) 25 wr ∧ Blk (w.heap.size + 1 + 1 + 1) (Pl.zero.arr) 28 wr ∧ Blk (w.heap.size + 1 + 1 + 1 + 1) (atP q).arr 28 wr ∧ Li nv (w.heap.size + 1 + 1 + 1 + 1 + 1) la L wr ∧ Below w.heap.size w wr) (fun _ iv _ => n - (intOf iv).toNat)
  case atStart => exact ⟨0, none, by omega, rfl, rfl, rfl, a0, a1, a3, a4, hS, hB⟩
  case round =>
    clear a0 a1 a3 a4 hS hB
    obtain ⟨j, q, hj, rfl, rfl, hq, a0, a1, a3, a4, hS, hB⟩ := hrel
    by_cases hjn : j < n
    · have j0 : (j : Int) < (n : Int) := by omega
      have j1 : (0 : Int) ≤ (j : Int) := by omega
      obtain ⟨d, hd⟩ : ∃ d, L[j]? = some d := ⟨_, List.getElem?_eq_getElem (by rw [HN.out]; exact hjn)⟩
      have hd8 := HM.out j d hd
      have d0 : (d : Int) < 8 := by omega
      have d1 : (0 : Int) ≤ (d : Int) := by omega
      have hst := bestL_take (candC c most) L j d hd
      rw [hq.out] at hst
      have hS2 := hS
      obtain ⟨b, o, rfl, _, hbl, hr⟩ := hS.at nv_length j d hd
      have c0 : wr.cell? ⟨b, o + j, none⟩ = some (.int .i64 (d : Int)) := by have := hr 0 _ rfl; simpa using this
      have c1 := a0.cell d _ (mbc_get c d hd8)
      have c2 := a1.cell d _ (mbc_get most d hd8)
      have e0 := a0.drew
      have e1 := a1.drew
      have e3 := a3.drew
      have e4 := a4.drew
      have eS := hS2.below ((Below.refl _ _).drew)
      have hE := hB.drew
      have c3 := e0.cell d _ (mbc_get c d hd8)
      clear hq hr hd a0 a1 a3 a4 hB hS hS2 hbl
      by_cases hlt : c d < most d
      · have hx1 : c d + 1 < 4294967296 := by have := HC.out d; omega
        obtain ⟨x, hx⟩ : ∃ x, c d + 1 = x := ⟨_, rfl⟩
        have HP : candC c most d = some ⟨x, (d : Int), 0⟩ := by rw [candC, if_pos hlt, hx]
        have g1 : IntKind.u32.wrap ((c d : Int) + 1) = (x : Int) := by rw [IntKind.wrap_u32]; omega
        have hlt' : ¬ (most d : Int) ≤ (c d : Int) := by omega
        have hst : bestL (candC c most) (L.take (j + 1)) = better q ⟨x, (d : Int), 0⟩ := by rw [hst, bestS, HP]
        have HS0 : Hid (bestL (candC c most) (L.take (j + 1)) = better q ⟨x, (d : Int), 0⟩) := hst
        have hpa : ∀ k : Pl, putAt k.arr 0 (Pl.mk x (d : Int) 0).arr.toList = (Pl.mk x (d : Int) 0).arr := fun k => putAt_all _ _ rfl
        clear hlt hst HP hx1 hx
        have f5 := blk_new wr.drew (Pl.mk x (d : Int) 0).arr 28
        have hb := below_box wr.drew (.cells (Pl.mk x (d : Int) 0).arr 28)
        have f0 := e0.below hb
        have f1 := e1.below hb
        have f3 := e3.below hb
        have f4 := e4.below hb
        have fS := eS.below hb
        have hF := hE.trans (hb.mono hE.size)
        have hq5 := e4.lt
        clear e0 e1 e3 e4 eS hb
        go_wp2_with fail
        go_region
        go_upto_region 8 with (first | refine build_as rfl 28 #[(0, .tmp 30), (1, .tmp 31)] rfl (C := (Pl.mk x (d : Int) 0).arr) (builtPl2 x d) ?_ | refine alloc_zero zeroPl rfl rfl ?_ | refine store_new rfl 28 _ _ rfl (cells := (Pl.mk x (d : Int) 0).arr) rfl rfl sizePl rfl (Pl.arr_one _) ?_)
        try simp only [Act.put, List.setIfInBounds_toArray, List.set_cons_zero, List.set_cons_succ]
        generalize wr.drew.alloc (Obj.cells (Pl.mk x (d : Int) 0).arr 28) = V at f0 f1 f3 f4 f5 fS hF ⊢
        generalize wr.drew.heap.size = vs at f5 hq5 ⊢
        clear c0 c1 c2 c3 g1 hlt' hE
        cases q with
        | none =>
          have HS : Hid (bestL (candC c most) (L.take (j + 1)) = some ⟨x, (d : Int), 0⟩) := HS0
          clear HS0
          go_wp2_with (first | refine load_blk rfl 28 _ rfl f5 rfl Try.underlying28 rfl sizePl ?_ | (refine store_part rfl 28 _ _ rfl (off := 0) (cells := (Pl.mk x (d : Int) 0).arr) f4 rfl rfl sizePl (Nat.le_refl _) (Pl.arr_one _) ?_; intro w9 b9 k9; rw [hpa] at b9; have g0 := f0.kp1 k9 (by omega); have g1 := f1.kp1 k9 (by omega); have g3 := f3.kp1 k9 (by omega); have gS := fS.kp k9 (fun k hk => by simp at hk; omega); have hB9 : Below w.heap.size w w9 := hF.trans (k9.below1 (by omega) hF.size)))
          exact ⟨⟨j + 1, some ⟨x, (d : Int), 0⟩, by omega, by go_num, rfl, HS, g0, g1, g3, b9, gS, hB9⟩, by simp [intOf]; omega⟩
        | some y =>
          have pb := bef_ok ⟨x, (d : Int), 0⟩ y
          by_cases hlt : befB ⟨x, (d : Int), 0⟩ y = true
          · have HS : Hid (bestL (candC c most) (L.take (j + 1)) = some ⟨x, (d : Int), 0⟩) := by rw [HS0.out, better, if_pos hlt]; rfl
            rw [hlt] at pb
            clear HS0 hlt
            go_wp2_with (first | refine load_want rfl 28 _ rfl f5 rfl Try.underlying28 rfl sizePl ?_ | refine load_want rfl 28 _ rfl f4 rfl Try.underlying28 rfl sizePl ?_)
            refine (pb _).mono ?_
            rintro r w6 ⟨rfl, hb⟩
            replace f0 := f0.below hb
            replace f1 := f1.below hb
            replace f3 := f3.below hb
            replace f4 := f4.below hb
            replace f5 := f5.below hb
            replace fS := fS.below hb
            replace hF := hF.trans (hb.mono hF.size)
            clear hb pb
            go_wp2_with (first | refine load_blk rfl 28 _ rfl f5 rfl Try.underlying28 rfl sizePl ?_ | (refine store_part rfl 28 _ _ rfl (off := 0) (cells := (Pl.mk x (d : Int) 0).arr) f4 rfl rfl sizePl (Nat.le_refl _) (Pl.arr_one _) ?_; intro w9 b9 k9; rw [hpa] at b9; have g0 := f0.kp1 k9 (by omega); have g1 := f1.kp1 k9 (by omega); have g3 := f3.kp1 k9 (by omega); have gS := fS.kp k9 (fun k hk => by simp at hk; omega); have hB9 : Below w.heap.size w w9 := hF.trans (k9.below1 (by omega) hF.size)))
            exact ⟨⟨j + 1, some ⟨x, (d : Int), 0⟩, by omega, by go_num, rfl, HS, g0, g1, g3, b9, gS, hB9⟩, by simp [intOf]; omega⟩
          · have HS : Hid (bestL (candC c most) (L.take (j + 1)) = some y) := by rw [HS0.out, better, if_neg hlt]; rfl
            rw [show befB ⟨x, (d : Int), 0⟩ y = false by simpa using hlt] at pb
            clear HS0 hlt
            go_wp2_with (first | refine load_want rfl 28 _ rfl f5 rfl Try.underlying28 rfl sizePl ?_ | refine load_want rfl 28 _ rfl f4 rfl Try.underlying28 rfl sizePl ?_)
            refine (pb _).mono ?_
            rintro r w6 ⟨rfl, hb⟩
            replace f0 := f0.below hb
            replace f1 := f1.below hb
            replace f3 := f3.below hb
            replace f4 := f4.below hb
            replace f5 := f5.below hb
            replace fS := fS.below hb
            replace hF := hF.trans (hb.mono hF.size)
            clear hb pb
            go_wp2_with fail
            exact ⟨⟨j + 1, some y, by omega, by go_num, rfl, HS, f0, f1, f3, f4, fS, hF⟩, by simp [intOf]; omega⟩
      · have HP : candC c most d = none := by rw [candC, if_neg hlt]
        have HS : Hid (bestL (candC c most) (L.take (j + 1)) = q) := by rw [hst, bestS, HP]; rfl
        have hlt' : (most d : Int) ≤ (c d : Int) := by omega
        clear hlt hst HP c3
        go_wp2_with fail
        go_region
        go_wp2_with fail
        exact ⟨⟨j + 1, q, by omega, by go_num, rfl, HS, e0, e1, e3, e4, eS, hE⟩, by simp [intOf]; omega⟩
    · obtain rfl : j = n := by omega
      obtain rfl : q = R := by rw [← hq.out, ← HR.out, List.take_of_length_le (by rw [HN.out]; omega)]
      have hpa : putAt Pl.zero.arr 0 (atP q).arr.toList = (atP q).arr := putAt_all _ _ rfl
      clear hq HR HM HN HC hS a0 a1
      go_wp2_with (first | refine load_blk rfl 28 _ rfl a4 rfl Try.underlying28 rfl sizePl ?_ | (refine store_part rfl 28 _ _ rfl (off := 0) (cells := (atP q).arr) a3 rfl rfl sizePl (Nat.le_refl _) (Pl.arr_one _) ?_; intro w9 b9 k9; rw [hpa] at b9; have hB9 : Below w.heap.size w w9 := hB.trans (k9.below1 (by omega) hB.size)))
      exact bodyPost_ret (w := w9) (v := .tuple #[.agg (atP q).arr, .bool q.isSome]) (ret_two rfl rfl b9 Try.underlying28 rfl sizePl rfl) rfl ⟨rfl, hB9⟩

end Go.Proofs.Ytodemfkjieonoaa
