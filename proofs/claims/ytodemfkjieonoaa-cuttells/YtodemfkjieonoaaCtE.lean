/-
  What some have together, what is missing, what is left behind a place, whether two lists of places are the same: what the document says.
  Counts and rounds are such as a uint32 holds.
-/
import Derived.Test.YtodemfkjieonoaaCtC
import Derived.Test.YtodemfkjieonoaaCtD
import Derived.Test.YtodemfkjieonoaaLn
namespace Go.Proofs.Ytodemfkjieonoaa
set_option maxRecDepth 10000
open Go.RowKit Go.Sort
set_option linter.unusedVariables false

theorem nextR_lt (g : Pl) (s : Bool) (low most m : Nat → Nat) (hm : ∀ i, most i < 4294967296) : ∀ p, nextR g s low most m = some p → p.r < 4294967296 := fun p h => by
  obtain ⟨⟨d, _, hp⟩, _⟩ := (bestL_spec (candR g s low most) (lst m)).2 p h
  unfold candR at hp
  split at hp
  · injection hp with hp
    subst hp
    have := hm d
    show refR g s low most d < 4294967296
    omega
  · cases hp
theorem fromL_none (low most m : Nat → Nat) (n : Nat) : fromL low most m n none = [] := by cases n <;> rfl
theorem fromL_some (low most m : Nat → Nat) (n : Nat) (p : Pl) : fromL low most m (n + 1) (some p) = p :: fromL low most m n (nextR p false low most m) := rfl

set_option maxHeartbeats 2000000 in
theorem places_ok (L : List Pl) (la lb : Option Addr) (lc ld : Nat) (lm : L.length ≤ 9223372036854775807) (w : World) (hA : Li Pl.vals 0 la L w) (hC : Li Pl.vals 0 lb L w) : Calls Try.prog 13 #[.slice la L.length lc, .slice lb L.length ld] w fun e w' => e = .returned (.bool true) ∧ Below w.heap.size w w' := by
  obtain ⟨n, hn⟩ : ∃ n, Hid (L.length = n) := ⟨_, rfl⟩
  rw [hn.out] at lm ⊢
  have n0 : ((n : Int) != (n : Int)) = false := by simp
  go_enter Try.func13, Try.ntmps13
  go_wp2_with fail
  clear n0
  go_loopw [5] (fun iv wr => ∃ j : Nat, j ≤ n ∧ iv = .int .i64 j ∧ Li Pl.vals 0 la L wr ∧ Li Pl.vals 0 lb L wr ∧ Below w.heap.size w wr) (fun iv _ => n - (intOf iv).toNat)
  case atStart => exact ⟨0, by omega, rfl, hA, hC, Below.refl _ _⟩
  case round =>
    clear hA hC
    obtain ⟨j, hj, rfl, hA, hC, hB⟩ := hrel
    by_cases hjn : j < n
    · have j0 : (j : Int) < (n : Int) := by omega
      have j1 : (0 : Int) ≤ (j : Int) := by omega
      obtain ⟨k, hk⟩ : ∃ k, L[j]? = some k := ⟨_, List.getElem?_eq_getElem (by rw [hn.out]; exact hjn)⟩
      obtain ⟨b, o, rfl, _, hbl, hr⟩ := hA.at Pl.vals_length j k hk
      obtain ⟨b', o', rfl, _, hbl', hr'⟩ := hC.at Pl.vals_length j k hk
      have kK : ∀ w, (binOp .neq 28 (.agg k.vals.toArray) (.agg k.vals.toArray)).run Try.prog w = .ok (.bool false) w := neqPl k k true (Pl.same_self k)
      have la : ∀ w', (∃ p : Regrown, w' = grow (redrawn wr p.d) p.os) → w'.rangeAt b (o + j * 3) k.vals := fun w' ⟨p, e⟩ => e ▸ range_block hr ((below_regrown wr p.d p.os).block b hbl)
      have lb : ∀ w', (∃ p : Regrown, w' = grow (redrawn wr p.d) p.os) → w'.rangeAt b' (o' + j * 3) k.vals := fun w' ⟨p, e⟩ => e ▸ range_block hr' ((below_regrown wr p.d p.os).block b' hbl')
      clear hk hr hr' hbl hbl'
      go_upto_region 6 with fail
      try simp only [Act.put, List.setIfInBounds_toArray, List.set_cons_zero, List.set_cons_succ]
      refine wp_region_quiet_below (by kernel_rfl) (by kernel_rfl) ?_
      repeat (first
        | (go_big_quiet_want; refine quiet_range (off := o + j * 3) rfl rfl la Try.underlying28 rfl sizePl ?_; simp only [Act.put, List.setIfInBounds_toArray, List.set_cons_zero, List.set_cons_succ]; go_big_quiet_on)
        | (go_big_quiet_want; refine quiet_range (off := o' + j * 3) rfl rfl lb Try.underlying28 rfl sizePl ?_; simp only [Act.put, List.setIfInBounds_toArray, List.set_cons_zero, List.set_cons_succ]; go_big_quiet_on)
        | go_big_quiet_step (fail))
      refine wpQuiet_nil ?_
      intro _ hw'
      obtain ⟨⟨dq, osq⟩, hw''⟩ := hw'
      have hb := below_regrown wr dq osq
      subst hw''
      generalize grow (redrawn wr dq) osq = w1 at hb ⊢
      replace hA := hA.below hb
      replace hC := hC.below hb
      replace hB := hB.trans (hb.mono hB.size)
      clear hb
      clear la lb kK
      go_wp2_with fail
      exact ⟨⟨j + 1, by omega, by go_num, hA, hC, hB⟩, by simp [intOf]; omega⟩
    · obtain rfl : j = n := by omega
      clear hA hC
      go_wp2_with fail
      go_ret
      exact ⟨rfl, hB⟩

set_option maxHeartbeats 4000000 in
theorem runion_ok (L : List (Nat → Nat)) (la : Option Addr) (lc : Nat) (lm : L.length ≤ 9223372036854775807) (w : World) (lS : Li row8 0 la L w) : Calls Try.prog 10 #[.slice la L.length lc] w fun e w' => e = .returned (.agg (mbc (unionL L))) ∧ Below w.heap.size w w' := by
  obtain ⟨a0, a1, hB⟩ := two_blk (T0 := 25) (T1 := 25) (C0 := mbc noMb) (C1 := mbc noMb) (w := w) rfl
  obtain ⟨R, hR⟩ : ∃ R, Hid (unionL L = R) := ⟨_, rfl⟩
  rw [hR.out]
  obtain ⟨n, hn⟩ : ∃ n, L.length = n := ⟨_, rfl⟩
  rw [hn] at lm ⊢
  have HN : Hid (L.length = n) := hn
  clear hn
  go_enter Try.func10, Try.ntmps10
  go_upto_region 2 with (first | refine alloc_zero zeroCt rfl rfl ?_ | refine build_zero builtCt rfl rfl ?_ | refine store_new rfl 25 _ _ rfl (cells := mbc noMb) rfl rfl sizeCt rfl (mbc_one _) ?_)
  try simp only [Act.put, List.setIfInBounds_toArray, List.set_cons_zero, List.set_cons_succ]
  try simp only [alloc_size]
  generalize (w.alloc (Obj.cells (mbc noMb) 25)).alloc (Obj.cells (mbc noMb) 25) = W at a0 a1 hB ⊢
  go_wp2_with fail
  go_loopw [4] (fun iv wr => ∃ j : Nat, j ≤ n ∧ iv = .int .i64 j ∧ Blk w.heap.size (mbc noMb) 25 wr ∧ Blk (w.heap.size + 1) (mbc (unionL (L.take j))) 25 wr ∧ Below w.heap.size w wr) (fun iv _ => n - (intOf iv).toNat)
  case atStart => exact ⟨0, by omega, rfl, a0, a1, hB⟩
  case round =>
    clear a0 a1 hB
    obtain ⟨j, hj, rfl, a0, a1, hB⟩ := hrel
    by_cases hjn : j < n
    · have j0 : (j : Int) < (n : Int) := by omega
      have j1 : (0 : Int) ≤ (j : Int) := by omega
      obtain ⟨c, hc⟩ : ∃ c, L[j]? = some c := ⟨_, List.getElem?_eq_getElem (by rw [HN.out]; exact hjn)⟩
      obtain ⟨b, o, rfl, _, hbl, hr⟩ := lS.at row8_length j c hc
      have HS : Hid (unionL (L.take (j + 1)) = maxC (unionL (L.take j)) c) := unionL_take L j c hc
      generalize unionL (L.take j) = u at a1 HS
      rw [← maxTo_zero u c] at a1
      clear hc
      go_wp2_with fail
      go_loopw [5] (fun iv wr => ∃ i : Nat, i ≤ 8 ∧ iv = .int .i64 i ∧ Blk w.heap.size (mbc noMb) 25 wr ∧ Blk (w.heap.size + 1) (mbc (maxTo u c i)) 25 wr ∧ Below w.heap.size w wr) (fun iv _ => 8 - (intOf iv).toNat)
      case atStart => exact ⟨0, by omega, rfl, a0, a1, hB⟩
      case round =>
        clear a0 a1 hB
        obtain ⟨i, hi, rfl, a0, a1, hB⟩ := hrel
        by_cases hi8 : i < 8
        · have i0 : (i : Int) < 8 := by omega
          have i1 : (0 : Int) ≤ (i : Int) := by omega
          have c0 := a1.cell i _ (mbc_get _ i hi8)
          rw [maxTo_at] at c0
          have c1 : wr.cell? ⟨b, o + j * 8 + i, none⟩ = some (.int .u32 (c i : Int)) := range_block hr (hB.block b hbl) i _ (by have := mbc_get c i hi8; simpa [mbc] using this)
          have e0 := a0.drew
          have e1 := a1.drew
          have hE := hB.drew
          by_cases hm : u i < c i
          · have hst := maxTo_set u c i hi8 (c i) (by omega)
            have hm' : (u i : Int) < (c i : Int) := by omega
            have c3 : wr.drew.cell? ⟨b, o + j * 8 + i, none⟩ = some (.int .u32 (c i : Int)) := c1
            clear hm a0 a1 hB
            go_wp2_with fail
            go_region
            go_wp2_with (refine store_one rfl 23 _ _ rfl (off := i) (.int .u32 (c i : Int)) e1 rfl rfl rfl rfl sizeU32 (by rw [mbc_size]; omega) ?_; intro w2 b2 k2; rw [hst] at b2; have f0 := e0.kp1 k2 (by omega); have hB2 : Below w.heap.size w w2 := hE.trans (k2.below1 (by omega) hE.size))
            exact ⟨⟨i + 1, by omega, by go_num, f0, b2, hB2⟩, by simp [intOf]; omega⟩
          · rw [maxTo_skip u c i (by omega)] at e1
            have hm' : ¬ (u i : Int) < (c i : Int) := by omega
            clear hm a0 a1 hB
            go_wp2_with fail
            go_region
            go_wp2_with fail
            exact ⟨⟨i + 1, by omega, by go_num, e0, e1, hE⟩, by simp [intOf]; omega⟩
        · obtain rfl : i = 8 := by omega
          rw [maxTo_full, ← HS.out] at a1
          clear hr
          go_wp2_with fail
          exact ⟨⟨j + 1, by omega, by go_num, a0, a1, hB⟩, by simp [intOf]; omega⟩
    · obtain rfl : j = n := by omega
      rw [List.take_of_length_le (by rw [HN.out]; omega), hR.out] at a1
      have hpa : putAt (mbc noMb) 0 (mbc R).toList = mbc R := putAt_all _ _ rfl
      clear lS HN hR
      go_wp2_with (first | refine load_blk rfl 25 _ rfl a1 rfl Try.underlying25 rfl sizeCt ?_ | (refine store_part rfl 25 _ _ rfl (off := 0) (cells := mbc R) a0 rfl rfl sizeCt (Nat.le_refl _) (mbc_one _) ?_; intro w2 b2 k2; rw [hpa] at b2; have hB2 : Below w.heap.size w w2 := hB.trans (k2.below1 (Nat.le_refl _) hB.size)))
      exact bodyPost_ret (w := w2) (v := .agg (mbc R)) (ret_one rfl rfl b2 Try.underlying25 rfl sizeCt) rfl ⟨rfl, hB2⟩

set_option maxHeartbeats 8000000 in
theorem rmissing_ok (c : Nat → Nat) (hc : ∀ i, c i < 4294967296) (most m : Nat → Nat) (hm : ∀ i, most i < 4294967296) (w : World) : Calls Try.prog 15 #[.agg (mbc c), .agg (mbc most), .agg (mbc m)] w fun e w' => Placed (missL most m 100 c) w.heap.size e w' ∧ Below w.heap.size w w' := by
  obtain ⟨a0, a1, a2, hB⟩ := three_blk (T0 := 25) (T1 := 25) (T2 := 26) (C0 := (mbc c)) (C1 := mbc most) (C2 := mbc m) (w := w) rfl
  obtain ⟨R, hR⟩ : ∃ R, Hid (fromL c most m 100 (nextR Pl.zero true c most m) = R) := ⟨_, rfl⟩
  rw [← miss_ref, hR.out]
  have HC : Hid ((∀ i, c i < 4294967296) ∧ ∀ i, most i < 4294967296) := ⟨hc, hm⟩
  have pN := next_ok Pl.zero true c most m (by decide) HC.out.1 HC.out.2
  have HL0 := nextR_lt Pl.zero true c most m hm
  generalize nextR Pl.zero true c most m = q0 at pN hR HL0
  clear hm hc
  obtain ⟨iI, zI, hI, hz0, hsz, hby, hzs⟩ := infoPl
  go_enter Try.func15, Try.ntmps15
  go_upto_region 1 with fail
  generalize ((w.alloc (Obj.cells (mbc c) 25)).alloc (Obj.cells (mbc most) 25)).alloc (Obj.cells (mbc m) 26) = W at a0 a1 a2 hB ⊢
  have hW0 := a0.lt
  have hW1 := a1.lt
  have hW2 := a2.lt
  have o1 := Ow.empty (f := Pl.vals) (k := 3) (blk_new W #[] 28)
  have lg : Lg Pl.vals 3 28 W.heap.size (some ⟨W.heap.size, 0, none⟩) 0 [] (W.alloc (.cells #[] 28)) := Lg.of o1 (Nat.le_refl _)
  have hb := below_box W (.cells #[] 28)
  have hs := hb.size
  replace a0 := a0.below hb
  replace a1 := a1.below hb
  replace a2 := a2.below hb
  replace hB := hB.trans (hb.mono hB.size)
  have n8 : W.heap.size < (W.alloc (.cells #[] 28)).heap.size := by simp
  clear hb o1
  go_upto_region 2 with (refine box_nopl rfl rfl ?_)
  try simp only [Act.put, List.setIfInBounds_toArray, List.set_cons_zero, List.set_cons_succ]
  generalize W.alloc (Obj.cells #[] 28) = W1 at a0 a1 a2 lg hB hs n8 ⊢
  go_wp2_with (first | refine build_zero builtPl rfl rfl ?_ | refine load_blk rfl 25 _ rfl a0 rfl Try.underlying25 rfl sizeCt ?_ | refine load_blk rfl 25 _ rfl a1 rfl Try.underlying25 rfl sizeCt ?_ | refine load_blk rfl 26 _ rfl a2 rfl Try.underlying26 rfl sizeMb ?_)
  refine (pN _).mono ?_
  rintro r w1 ⟨rfl, hb⟩
  replace n8 := Nat.lt_of_lt_of_le n8 hb.size
  replace a0 := a0.below hb
  replace a1 := a1.below hb
  replace a2 := a2.below hb
  replace lg := lg.below hb
  replace hB := hB.trans (hb.mono hB.size)
  replace hs := Nat.le_trans hs hb.size
  clear hb
  clear pN
  have a8 := blk_new w1 (atP q0).arr 28
  have hb := below_box w1 (.cells (atP q0).arr 28)
  replace a0 := a0.below hb
  replace a1 := a1.below hb
  replace a2 := a2.below hb
  replace lg := lg.below hb
  replace hB := hB.trans (hb.mono hB.size)
  replace hs := Nat.le_trans hs hb.size
  clear hb
  go_upto_region 3 with (first | refine alloc_zero zeroPl rfl rfl ?_ | refine store_new rfl 28 _ _ rfl (cells := (atP q0).arr) rfl rfl sizePl rfl (Pl.arr_one _) ?_)
  try simp only [Act.put, List.setIfInBounds_toArray, List.set_cons_zero, List.set_cons_succ]
  generalize w1.alloc (Obj.cells (atP q0).arr 28) = W2 at a0 a1 a2 lg a8 hB hs ⊢
  generalize w1.heap.size = vs at a8 n8 ⊢
  go_loopw [7, 9] (fun sv kv wr => ∃ (n cap : Nat) (ad : Option Addr) (P : List Pl) (q : Option Pl), n ≤ 100 ∧ sv = .slice ad n cap ∧ kv = .bool q.isSome ∧ Hid (∀ p, q = some p → p.r < 4294967296) ∧ Hid (P.length = n) ∧ Hid (R = P ++ fromL c most m (100 - n) q) ∧ vs ∉ blkOf ad ∧ Lg Pl.vals 3 28 W.heap.size ad cap P wr ∧ W.heap.size ≤ wr.heap.size ∧ Blk w.heap.size (mbc c) 25 wr ∧ Blk (w.heap.size + 1) (mbc most) 25 wr ∧ Blk (w.heap.size + 1 + 1) (mbc m) 26 wr ∧ Blk vs (atP q).arr 28 wr ∧ Below w.heap.size w wr) (fun sv _ _ => 100 - lenOf sv)
  case atStart => exact ⟨0, 0, _, [], q0, by omega, rfl, rfl, HL0, rfl, hR.out.symm, by simp [blkOf]; omega, lg, hs, a0, a1, a2, a8, hB⟩
  case round =>
    clear a0 a1 a2 a8 lg hB hs
    obtain ⟨n, cap, ad, P, q, hn, rfl, rfl, hL, hlen, hq, nv8, lg, hs, a0, a1, a2, a8, hB⟩ := hrel
    cases q with
    | none =>
      have hfin : R = P := by rw [hq.out, fromL_none, List.append_nil]
      clear hq
      subst hfin
      have hpl : Placed R w.heap.size (.returned (.slice ad n cap)) wr := ⟨ad, cap, by rw [hlen.out], lg.cap, lg.li.mono (by omega)⟩
      clear lg a0 a1 a2 a8 hI hlen
      go_wp2_with fail
      go_ret
      exact ⟨hpl, hB⟩
    | some p =>
      by_cases hn1 : n < 100
      · have n1' : (n : Int) < 100 := by omega
        have pN := next_ok p false c most m (hL.out p rfl) HC.out.1 HC.out.2
        have HL1 := nextR_lt p false c most m HC.out.2
        have HQ : Hid (R = (P ++ [p]) ++ fromL c most m (100 - (n + 1)) (nextR p false c most m)) := show R = _ from by rw [hq.out, show 100 - n = (100 - (n + 1)) + 1 by omega, fromL_some, List.append_assoc]; rfl
        generalize nextR p false c most m = q1 at pN HQ HL1
        clear hq hL
        rw [show atP (some p) = p from rfl] at a8
        have n0 : w.heap.size ∉ blkOf ad := fun hm => by have := (lg.in _ hm).1; omega
        have n1 : (w.heap.size + 1) ∉ blkOf ad := fun hm => by have := (lg.in _ hm).1; omega
        have n2 : (w.heap.size + 1 + 1) ∉ blkOf ad := fun hm => by have := (lg.in _ hm).1; omega
        have n8' := nv8
        have nB : ∀ j ∈ blkOf ad, w.heap.size ≤ j := fun j hm => by have := (lg.in _ hm).1; omega
        have hb := below_box wr (.cells p.arr 28)
        have d0 := a0.below hb
        have d1 := a1.below hb
        have d2 := a2.below hb
        have d8 := a8.below hb
        have dg := lg.below hb
        have hD := hB.trans (hb.mono hB.size)
        have hs2 := Nat.le_trans hs hb.size
        have hx := (li_box (f := Pl.vals) wr p 28 0 (Nat.zero_le _)).src (P := Try.prog) Pl.vals_length Pl.vals_one Try.underlying36 1
        have hvs := d8.lt
        clear hb a0 a1 a2 lg hB
        go_upto_region 5 with (first | refine load_blk rfl 28 _ rfl a8 rfl Try.underlying28 rfl sizePl ?_ | refine box_pl rfl _ rfl p rfl ?_ | (refine append_ln Pl.vals_length rfl _ _ rfl Try.underlying36 hI hz0 hsz hby hzs dg hs2 hlen rfl (M := [p]) (by simp) hx rfl (by simp; omega) (by simp [maxLen]; omega) ?_; intro ad' cap' w5 hg5 hk5 ha5; have f0 := d0.kp hk5 n0; have f1 := d1.kp hk5 n1; have f2 := d2.kp hk5 n2; have f8 := d8.kp hk5 n8'; have hF : Below w.heap.size w w5 := hD.trans (hk5.below nB hD.size); have hs6 : W.heap.size ≤ w5.heap.size := Nat.le_trans hs2 hk5.size))
        try simp only [Act.put, List.setIfInBounds_toArray, List.set_cons_zero, List.set_cons_succ]
        have nv5 : vs ∉ blkOf ad' := fun hm => (ha5 _ hm).elim nv8 (fun h => by omega)
        have HLn : Hid ((P ++ [p]).length = n + 1) := by rw [List.length_append, hlen.out]; rfl
        clear d0 d1 d2 d8 dg hD hx hI a8 hs hs2 ha5 hk5 nv8 n8' n0 n1 n2 nB hlen n1' hvs
        have a0 := f0
        have a1 := f1
        have a2 := f2
        have a8 := f8
        have lg := hg5
        have hB := hF
        have hs := hs6
        clear f0 f1 f2 f8 hg5 hF hs6
        go_wp2_with (first | refine load_blk rfl 28 _ rfl a8 rfl Try.underlying28 rfl sizePl ?_ | refine load_blk rfl 25 _ rfl a0 rfl Try.underlying25 rfl sizeCt ?_ | refine load_blk rfl 25 _ rfl a1 rfl Try.underlying25 rfl sizeCt ?_ | refine load_blk rfl 26 _ rfl a2 rfl Try.underlying26 rfl sizeMb ?_)
        refine (pN _).mono ?_
        rintro r w6 ⟨rfl, hb⟩
        replace a0 := a0.below hb
        replace a1 := a1.below hb
        replace a2 := a2.below hb
        replace a8 := a8.below hb
        replace lg := lg.below hb
        replace hB := hB.trans (hb.mono hB.size)
        replace hs := Nat.le_trans hs hb.size
        clear hb
        clear pN
        have a9 := blk_new w6 (atP q1).arr 28
        have hv6 := a8.lt
        have hb := below_box w6 (.cells (atP q1).arr 28)
        replace a0 := a0.below hb
        replace a1 := a1.below hb
        replace a2 := a2.below hb
        replace a8 := a8.below hb
        replace lg := lg.below hb
        replace hB := hB.trans (hb.mono hB.size)
        replace hs := Nat.le_trans hs hb.size
        clear hb
        have hpa : putAt p.arr 0 (atP q1).arr.toList = (atP q1).arr := putAt_all _ _ rfl
        go_upto_region 6 with (first | refine alloc_zero zeroPl rfl rfl ?_ | refine store_new rfl 28 _ _ rfl (cells := (atP q1).arr) rfl rfl sizePl rfl (Pl.arr_one _) ?_)
        try simp only [Act.put, List.setIfInBounds_toArray, List.set_cons_zero, List.set_cons_succ]
        generalize w6.alloc (Obj.cells (atP q1).arr 28) = W6 at a0 a1 a2 lg a8 a9 hB hs ⊢
        generalize w6.heap.size = v6 at a9 hv6 ⊢
        go_wp2_with (first | refine load_blk rfl 28 _ rfl a9 rfl Try.underlying28 rfl sizePl ?_ | (refine store_part rfl 28 _ _ rfl (off := 0) (cells := (atP q1).arr) a8 rfl rfl sizePl (Nat.le_refl _) (Pl.arr_one _) ?_; intro w9 b9 k9; rw [hpa] at b9; have g0 := a0.kp1 k9 (by omega); have g1 := a1.kp1 k9 (by omega); have g2 := a2.kp1 k9 (by omega); have gg := lg.away k9 nv5; have hs9 := Nat.le_trans hs k9.size; have hB9 : Below w.heap.size w w9 := hB.trans (k9.below1 (by omega) hB.size)))
        exact ⟨⟨n + 1, cap', ad', P ++ [p], q1, by omega, rfl, rfl, HL1, HLn, HQ, nv5, gg, hs9, g0, g1, g2, b9, hB9⟩, by simp [lenOf]; omega⟩
      · obtain rfl : n = 100 := by omega
        have hfin : R = P := by rw [hq.out]; exact List.append_nil _
        clear hq
        subst hfin
        have hpl : Placed R w.heap.size (.returned (.slice ad 100 cap)) wr := ⟨ad, cap, by rw [hlen.out], lg.cap, lg.li.mono (by omega)⟩
        clear lg a0 a1 a2 a8 hI hlen
        go_wp2_with fail
        go_ret
        exact ⟨hpl, hB⟩

set_option maxHeartbeats 8000000 in
theorem rrest_ok (g : Pl) (hg : g.r < 4294967296) (most m : Nat → Nat) (hm : ∀ i, most i < 4294967296) (w : World) : Calls Try.prog 17 #[.agg g.arr, .agg (mbc most), .agg (mbc m)] w fun e w' => Placed (missL most m 100 (aheadC g)) w.heap.size e w' ∧ Below w.heap.size w w' := by
  obtain ⟨a0, a1, a2, hB⟩ := three_blk (T0 := 28) (T1 := 25) (T2 := 26) (C0 := g.arr) (C1 := mbc most) (C2 := mbc m) (w := w) rfl
  obtain ⟨R, hR⟩ : ∃ R, Hid (fromL noMb most m 100 (nextR g true noMb most m) = R) := ⟨_, rfl⟩
  rw [← rest_ref, hR.out]
  have HC : Hid ((∀ i, noMb i < 4294967296) ∧ ∀ i, most i < 4294967296) := ⟨fun _ => (by decide : 0 < 4294967296), hm⟩
  have pN := next_ok g true noMb most m hg HC.out.1 HC.out.2
  have HL0 := nextR_lt g true noMb most m hm
  generalize nextR g true noMb most m = q0 at pN hR HL0
  clear hm hg
  obtain ⟨iI, zI, hI, hz0, hsz, hby, hzs⟩ := infoPl
  go_enter Try.func17, Try.ntmps17
  go_upto_region 1 with fail
  generalize ((w.alloc (Obj.cells g.arr 28)).alloc (Obj.cells (mbc most) 25)).alloc (Obj.cells (mbc m) 26) = W at a0 a1 a2 hB ⊢
  have hW0 := a0.lt
  have hW1 := a1.lt
  have hW2 := a2.lt
  have o1 := Ow.empty (f := Pl.vals) (k := 3) (blk_new W #[] 28)
  have lg : Lg Pl.vals 3 28 W.heap.size (some ⟨W.heap.size, 0, none⟩) 0 [] (W.alloc (.cells #[] 28)) := Lg.of o1 (Nat.le_refl _)
  have hb := below_box W (.cells #[] 28)
  have hs := hb.size
  replace a0 := a0.below hb
  replace a1 := a1.below hb
  replace a2 := a2.below hb
  replace hB := hB.trans (hb.mono hB.size)
  have n8 : W.heap.size < (W.alloc (.cells #[] 28)).heap.size := by simp
  clear hb o1
  go_upto_region 2 with (refine box_nopl rfl rfl ?_)
  try simp only [Act.put, List.setIfInBounds_toArray, List.set_cons_zero, List.set_cons_succ]
  generalize W.alloc (Obj.cells #[] 28) = W1 at a0 a1 a2 lg hB hs n8 ⊢
  go_wp2_with (first | refine load_blk rfl 28 _ rfl a0 rfl Try.underlying28 rfl sizePl ?_ | refine build_zero builtCt rfl rfl ?_ | refine load_blk rfl 25 _ rfl a1 rfl Try.underlying25 rfl sizeCt ?_ | refine load_blk rfl 26 _ rfl a2 rfl Try.underlying26 rfl sizeMb ?_)
  refine (pN _).mono ?_
  rintro r w1 ⟨rfl, hb⟩
  replace n8 := Nat.lt_of_lt_of_le n8 hb.size
  replace a0 := a0.below hb
  replace a1 := a1.below hb
  replace a2 := a2.below hb
  replace lg := lg.below hb
  replace hB := hB.trans (hb.mono hB.size)
  replace hs := Nat.le_trans hs hb.size
  clear hb
  clear pN
  have a8 := blk_new w1 (atP q0).arr 28
  have hb := below_box w1 (.cells (atP q0).arr 28)
  replace a0 := a0.below hb
  replace a1 := a1.below hb
  replace a2 := a2.below hb
  replace lg := lg.below hb
  replace hB := hB.trans (hb.mono hB.size)
  replace hs := Nat.le_trans hs hb.size
  clear hb
  go_upto_region 3 with (first | refine alloc_zero zeroPl rfl rfl ?_ | refine store_new rfl 28 _ _ rfl (cells := (atP q0).arr) rfl rfl sizePl rfl (Pl.arr_one _) ?_)
  try simp only [Act.put, List.setIfInBounds_toArray, List.set_cons_zero, List.set_cons_succ]
  generalize w1.alloc (Obj.cells (atP q0).arr 28) = W2 at a0 a1 a2 lg a8 hB hs ⊢
  generalize w1.heap.size = vs at a8 n8 ⊢
  go_loopw [7, 9] (fun sv kv wr => ∃ (n cap : Nat) (ad : Option Addr) (P : List Pl) (q : Option Pl), n ≤ 100 ∧ sv = .slice ad n cap ∧ kv = .bool q.isSome ∧ Hid (∀ p, q = some p → p.r < 4294967296) ∧ Hid (P.length = n) ∧ Hid (R = P ++ fromL noMb most m (100 - n) q) ∧ vs ∉ blkOf ad ∧ Lg Pl.vals 3 28 W.heap.size ad cap P wr ∧ W.heap.size ≤ wr.heap.size ∧ Blk w.heap.size g.arr 28 wr ∧ Blk (w.heap.size + 1) (mbc most) 25 wr ∧ Blk (w.heap.size + 1 + 1) (mbc m) 26 wr ∧ Blk vs (atP q).arr 28 wr ∧ Below w.heap.size w wr) (fun sv _ _ => 100 - lenOf sv)
  case atStart => exact ⟨0, 0, _, [], q0, by omega, rfl, rfl, HL0, rfl, hR.out.symm, by simp [blkOf]; omega, lg, hs, a0, a1, a2, a8, hB⟩
  case round =>
    clear a0 a1 a2 a8 lg hB hs
    obtain ⟨n, cap, ad, P, q, hn, rfl, rfl, hL, hlen, hq, nv8, lg, hs, a0, a1, a2, a8, hB⟩ := hrel
    cases q with
    | none =>
      have hfin : R = P := by rw [hq.out, fromL_none, List.append_nil]
      clear hq
      subst hfin
      have hpl : Placed R w.heap.size (.returned (.slice ad n cap)) wr := ⟨ad, cap, by rw [hlen.out], lg.cap, lg.li.mono (by omega)⟩
      clear lg a0 a1 a2 a8 hI hlen
      go_wp2_with fail
      go_ret
      exact ⟨hpl, hB⟩
    | some p =>
      by_cases hn1 : n < 100
      · have n1' : (n : Int) < 100 := by omega
        have pN := next_ok p false noMb most m (hL.out p rfl) HC.out.1 HC.out.2
        have HL1 := nextR_lt p false noMb most m HC.out.2
        have HQ : Hid (R = (P ++ [p]) ++ fromL noMb most m (100 - (n + 1)) (nextR p false noMb most m)) := show R = _ from by rw [hq.out, show 100 - n = (100 - (n + 1)) + 1 by omega, fromL_some, List.append_assoc]; rfl
        generalize nextR p false noMb most m = q1 at pN HQ HL1
        clear hq hL
        rw [show atP (some p) = p from rfl] at a8
        have n0 : w.heap.size ∉ blkOf ad := fun hm => by have := (lg.in _ hm).1; omega
        have n1 : (w.heap.size + 1) ∉ blkOf ad := fun hm => by have := (lg.in _ hm).1; omega
        have n2 : (w.heap.size + 1 + 1) ∉ blkOf ad := fun hm => by have := (lg.in _ hm).1; omega
        have n8' := nv8
        have nB : ∀ j ∈ blkOf ad, w.heap.size ≤ j := fun j hm => by have := (lg.in _ hm).1; omega
        have hb := below_box wr (.cells p.arr 28)
        have d0 := a0.below hb
        have d1 := a1.below hb
        have d2 := a2.below hb
        have d8 := a8.below hb
        have dg := lg.below hb
        have hD := hB.trans (hb.mono hB.size)
        have hs2 := Nat.le_trans hs hb.size
        have hx := (li_box (f := Pl.vals) wr p 28 0 (Nat.zero_le _)).src (P := Try.prog) Pl.vals_length Pl.vals_one Try.underlying36 1
        have hvs := d8.lt
        clear hb a0 a1 a2 lg hB
        go_upto_region 5 with (first | refine load_blk rfl 28 _ rfl a8 rfl Try.underlying28 rfl sizePl ?_ | refine box_pl rfl _ rfl p rfl ?_ | (refine append_ln Pl.vals_length rfl _ _ rfl Try.underlying36 hI hz0 hsz hby hzs dg hs2 hlen rfl (M := [p]) (by simp) hx rfl (by simp; omega) (by simp [maxLen]; omega) ?_; intro ad' cap' w5 hg5 hk5 ha5; have f0 := d0.kp hk5 n0; have f1 := d1.kp hk5 n1; have f2 := d2.kp hk5 n2; have f8 := d8.kp hk5 n8'; have hF : Below w.heap.size w w5 := hD.trans (hk5.below nB hD.size); have hs6 : W.heap.size ≤ w5.heap.size := Nat.le_trans hs2 hk5.size))
        try simp only [Act.put, List.setIfInBounds_toArray, List.set_cons_zero, List.set_cons_succ]
        have nv5 : vs ∉ blkOf ad' := fun hm => (ha5 _ hm).elim nv8 (fun h => by omega)
        have HLn : Hid ((P ++ [p]).length = n + 1) := by rw [List.length_append, hlen.out]; rfl
        clear d0 d1 d2 d8 dg hD hx hI a8 hs hs2 ha5 hk5 nv8 n8' n0 n1 n2 nB hlen n1' hvs
        have a0 := f0
        have a1 := f1
        have a2 := f2
        have a8 := f8
        have lg := hg5
        have hB := hF
        have hs := hs6
        clear f0 f1 f2 f8 hg5 hF hs6
        go_wp2_with (first | refine load_blk rfl 28 _ rfl a8 rfl Try.underlying28 rfl sizePl ?_ | refine build_zero builtCt rfl rfl ?_ | refine load_blk rfl 25 _ rfl a1 rfl Try.underlying25 rfl sizeCt ?_ | refine load_blk rfl 26 _ rfl a2 rfl Try.underlying26 rfl sizeMb ?_)
        refine (pN _).mono ?_
        rintro r w6 ⟨rfl, hb⟩
        replace a0 := a0.below hb
        replace a1 := a1.below hb
        replace a2 := a2.below hb
        replace a8 := a8.below hb
        replace lg := lg.below hb
        replace hB := hB.trans (hb.mono hB.size)
        replace hs := Nat.le_trans hs hb.size
        clear hb
        clear pN
        have a9 := blk_new w6 (atP q1).arr 28
        have hv6 := a8.lt
        have hb := below_box w6 (.cells (atP q1).arr 28)
        replace a0 := a0.below hb
        replace a1 := a1.below hb
        replace a2 := a2.below hb
        replace a8 := a8.below hb
        replace lg := lg.below hb
        replace hB := hB.trans (hb.mono hB.size)
        replace hs := Nat.le_trans hs hb.size
        clear hb
        have hpa : putAt p.arr 0 (atP q1).arr.toList = (atP q1).arr := putAt_all _ _ rfl
        go_upto_region 6 with (first | refine alloc_zero zeroPl rfl rfl ?_ | refine store_new rfl 28 _ _ rfl (cells := (atP q1).arr) rfl rfl sizePl rfl (Pl.arr_one _) ?_)
        try simp only [Act.put, List.setIfInBounds_toArray, List.set_cons_zero, List.set_cons_succ]
        generalize w6.alloc (Obj.cells (atP q1).arr 28) = W6 at a0 a1 a2 lg a8 a9 hB hs ⊢
        generalize w6.heap.size = v6 at a9 hv6 ⊢
        go_wp2_with (first | refine load_blk rfl 28 _ rfl a9 rfl Try.underlying28 rfl sizePl ?_ | (refine store_part rfl 28 _ _ rfl (off := 0) (cells := (atP q1).arr) a8 rfl rfl sizePl (Nat.le_refl _) (Pl.arr_one _) ?_; intro w9 b9 k9; rw [hpa] at b9; have g0 := a0.kp1 k9 (by omega); have g1 := a1.kp1 k9 (by omega); have g2 := a2.kp1 k9 (by omega); have gg := lg.away k9 nv5; have hs9 := Nat.le_trans hs k9.size; have hB9 : Below w.heap.size w w9 := hB.trans (k9.below1 (by omega) hB.size)))
        exact ⟨⟨n + 1, cap', ad', P ++ [p], q1, by omega, rfl, rfl, HL1, HLn, HQ, nv5, gg, hs9, g0, g1, g2, b9, hB9⟩, by simp [lenOf]; omega⟩
      · obtain rfl : n = 100 := by omega
        have hfin : R = P := by rw [hq.out]; exact List.append_nil _
        clear hq
        subst hfin
        have hpl : Placed R w.heap.size (.returned (.slice ad 100 cap)) wr := ⟨ad, cap, by rw [hlen.out], lg.cap, lg.li.mono (by omega)⟩
        clear lg a0 a1 a2 a8 hI hlen
        go_wp2_with fail
        go_ret
        exact ⟨hpl, hB⟩

end Go.Proofs.Ytodemfkjieonoaa
