/-
  Rosters: what the document's Find, May and Is answer.
  Each theorem says its own conditions: a roster that memory bears.
-/
import Derived.Test.YthhloomoiihfnaaRoB
namespace Go.Proofs.Ythhloomoiihfnaa
set_option maxRecDepth 10000
open Go.RowKit Go.Sort
set_option linter.unusedVariables false
set_option linter.unusedSimpArgs false

theorem take_next {q : Se → Bool} {L : List Se} {j : Nat} {k : Se} (h0 : ∀ k ∈ L.take j, q k = false) (hk : L[j]? = some k) (h : q k = false) : ∀ k ∈ L.take (j + 1), q k = false := by
  intro e he
  rw [List.take_add_one, hk] at he
  rcases List.mem_append.1 he with he | he
  · exact h0 e he
  · simp at he
    rw [he]
    exact h

set_option maxHeartbeats 1000000 in
theorem rfind_ok (d : Nat) (l : Nat) (L : List Se) (la : Option Addr) (lc : Nat) (lm : L.length ≤ 9223372036854775807) (w : World) (hS : Li Se.vals 0 la L w) :
    Calls Try.prog 16 #[.agg #[.int .u64 (l : Int), .slice la L.length lc], .int .u64 (d : Int)] w fun e w' => e = .returned (.int .i64 (placeI (fstS d L))) ∧ Below w.heap.size w w' := by
  obtain ⟨n, hn⟩ : ∃ n, Hid (L.length = n) := ⟨_, rfl⟩
  rw [hn.out] at lm ⊢
  have b0 := blk_new w #[.int .u64 (l : Int), .slice la n lc] 25
  have hB : Below w.heap.size w (w.alloc (.cells #[.int .u64 (l : Int), .slice la n lc] 25)) := below_box w _
  go_enter Try.func16, Try.ntmps16
  go_upto_region 1 with fail
  try simp only [Act.put]
  generalize hW : w.alloc (Obj.cells #[.int .u64 (l : Int), .slice la n lc] 25) = W at b0 hB ⊢
  clear hW
  replace hS := hS.below hB
  go_wp2_with fail
  go_loopw [5] (fun iv wr => ∃ j : Nat, j ≤ n ∧ iv = .int .i64 j ∧ Hid (∀ k ∈ L.take j, isI d k = false) ∧ Blk w.heap.size #[.int .u64 (l : Int), .slice la n lc] 25 wr ∧ Li Se.vals 0 la L wr ∧ Below w.heap.size w wr) (fun iv _ => n - (intOf iv).toNat)
  case atStart => exact ⟨0, by omega, rfl, fun d h => by simp at h, b0, hS, hB⟩
  case round =>
    clear hS hB b0
    obtain ⟨j, hj, rfl, h0, b0, hS, hB⟩ := hrel
    rename World => wr
    have c1 : wr.cell? ⟨w.heap.size, 1, none⟩ = some (.slice la n lc) := b0.cell 1 _ rfl
    by_cases hjn : j < n
    · have j0 : (j : Int) < (n : Int) := by omega
      have j1 : (0 : Int) ≤ (j : Int) := by omega
      obtain ⟨x, hx⟩ : ∃ k, L[j]? = some k := ⟨_, List.getElem?_eq_getElem (by rw [hn.out]; exact hjn)⟩
      obtain ⟨b, o, rfl, _, hbl, hr⟩ := hS.at Se.vals_length j x hx
      have c0 : wr.cell? ⟨b, o + j * 2, none⟩ = some (.int .u64 (x.i : Int)) := hr 0 _ rfl
      have ht : ((x.i : Int) == (d : Int)) = isI d x := by unfold isI; rw [Bool.eq_iff_iff]; simp; omega
      cases h1 : isI d x with
      | true =>
        have HF : Hid (fstS d L = some j) := first_at _ L j x hx h1 h0.out
        rw [h1] at ht
        clear hr h0 hx h1 b0
        go_wp2_with fail
        go_ret
        exact ⟨by simp [HF.out, placeI], hB⟩
      | false =>
        have HF : Hid (∀ k ∈ L.take (j + 1), isI d k = false) := take_next h0.out hx h1
        rw [h1] at ht
        clear hr h0 hx h1
        go_wp2_with fail
        exact ⟨⟨j + 1, by omega, by go_num, HF, b0, hS, hB⟩, by simp [intOf]; omega⟩
    · obtain rfl : j = n := by omega
      have HF : Hid (fstS d L = none) := first_no _ L (fun k hk => h0.out k (by rw [List.take_of_length_le (by rw [hn.out]; omega)]; exact hk))
      clear h0 b0
      go_wp2_with fail
      go_ret
      exact ⟨by simp [HF.out, placeI], hB⟩

set_option maxHeartbeats 4000000 in
theorem rmay_ok (l : Nat) (L : List Se) (la : Option Addr) (lc : Nat) (lm : L.length ≤ 9223372036854775807) (w : World) (hS : Li Se.vals 0 la L w) :
    Calls Try.prog 18 #[.agg #[.int .u64 (l : Int), .slice la L.length lc]] w fun e w' => e = .returned (.bool (mayS l L)) ∧ Below w.heap.size w w' := by
  have hm : mayS l L = (decide (L.length ≤ 4 ∧ l ≤ 65535) && okSTo l L L.length) := rfl
  obtain ⟨t, ht⟩ : ∃ t, Hid (mayS l L = t) := ⟨_, rfl⟩
  obtain ⟨n, hn⟩ : ∃ n, Hid (L.length = n) := ⟨_, rfl⟩
  rw [hn.out, ht.out] at hm
  rw [hn.out] at lm ⊢
  rw [ht.out]
  replace ht : Hid (t = (decide (n ≤ 4 ∧ l ≤ 65535) && okSTo l L n)) := hm
  clear hm
  have b0 := blk_new w #[.int .u64 (l : Int), .slice la n lc] 25
  have hB : Below w.heap.size w (w.alloc (.cells #[.int .u64 (l : Int), .slice la n lc] 25)) := below_box w _
  go_enter Try.func18, Try.ntmps18
  go_upto_region 1 with fail
  try simp only [Act.put]
  generalize hW : w.alloc (Obj.cells #[.int .u64 (l : Int), .slice la n lc] 25) = W at b0 hB ⊢
  clear hW
  replace hS := hS.below hB
  go_wp2_with fail
  go_loopw [3] (fun iv wr => ∃ j : Nat, j ≤ n ∧ iv = .int .i64 j ∧ Hid (okSTo l L j = true) ∧ Blk w.heap.size #[.int .u64 (l : Int), .slice la n lc] 25 wr ∧ Li Se.vals 0 la L wr ∧ Below w.heap.size w wr) (fun iv _ => n - (intOf iv).toNat)
  case atStart => exact ⟨0, by omega, rfl, okSTo_zero l L, b0, hS, hB⟩
  case round =>
    clear hS b0 hB
    obtain ⟨j, hj, rfl, h0, b0, hS, hB⟩ := hrel
    rename World => wr
    have c0 : wr.cell? ⟨w.heap.size, 0, none⟩ = some (.int .u64 (l : Int)) := b0.cell 0 _ rfl
    have c1 : wr.cell? ⟨w.heap.size, 1, none⟩ = some (.slice la n lc) := b0.cell 1 _ rfl
    by_cases hjn : j < n
    · have j0 : (j : Int) < (n : Int) := by omega
      have j1 : (0 : Int) ≤ (j : Int) := by omega
      obtain ⟨x, hx⟩ : ∃ k, L[j]? = some k := ⟨_, List.getElem?_eq_getElem (by rw [hn.out]; exact hjn)⟩
      have HF : okS l L j x = false → Hid ((decide (n ≤ 4 ∧ l ≤ 65535) && okSTo l L n) = false) := fun h => by show _ = _; rw [← hn.out, okSTo_no l L j x hx h, Bool.and_false]
      have HT : okS l L j x = true → Hid (okSTo l L (j + 1) = true) := fun h => by show _ = _; rw [okSTo_succ l L j x hx, h0.out, h]; rfl
      obtain ⟨b, o, rfl, _, hbl, hr⟩ := hS.at Se.vals_length j x hx
      have b1 := blk_new wr x.arr 41
      have hb := below_box wr (.cells x.arr 41)
      go_upto_region 5 with (go_big_may; first | refine load_range rfl 41 _ rfl x.vals hr rfl Try.underlying41 rfl sizeSe ?_ | refine alloc_zero zeroSe rfl rfl ?_ | refine store_new rfl 41 _ _ rfl (cells := x.arr) rfl rfl sizeSe rfl x.arr_one ?_)
      try simp only [Act.put, List.setIfInBounds_toArray, List.set_cons_zero, List.set_cons_succ]
      generalize wr.alloc (Obj.cells x.arr 41) = W1 at b1 hb ⊢
      replace b0 := b0.below hb
      replace hS := hS.below hb
      replace hB := hB.trans (hb.mono hB.size)
      clear hb hr hbl c0 c1
      generalize wr.heap.size = z at b1 ⊢
      have q0 : ∀ d os, (grow (redrawn W1 d) os).cell? ⟨z, 0, none⟩ = some (.int .u64 (x.i : Int)) := cell_regrown (b1.cell 0 _ rfl)
      have q1 : ∀ d os, (grow (redrawn W1 d) os).cell? ⟨z, 1, none⟩ = some (.int .u64 (x.n : Int)) := cell_regrown (b1.cell 1 _ rfl)
      have q2 : ∀ d os, (grow (redrawn W1 d) os).cell? ⟨w.heap.size, 0, none⟩ = some (.int .u64 (l : Int)) := cell_regrown (b0.cell 0 _ rfl)
      have q3 : ∀ d os, (grow (redrawn W1 d) os).cell? ⟨w.heap.size, 1, none⟩ = some (.slice (some ⟨b, o, none⟩) n lc) := cell_regrown (b0.cell 1 _ rfl)
      by_cases h1 : x.i < 1
      · have d1 : decide ((x.i : Int) < 1) = true := by simp; omega
        have h2 := h1
        have h3 := h1
        obtain rfl : t = false := by rw [ht.out]; exact (HF (by unfold okS; rw [decide_eq_false (by omega)]; rfl)).out
        clear HF HT h0 hx h1 h2 h3 
        refine wp_region_quiet_below (by kernel_rfl) (by kernel_rfl) ?_
        repeat go_big_quiet_step (fail)
        refine wpQuiet_nil ?_
        intro _ hw'
        obtain ⟨⟨dq, osq⟩, hw''⟩ := hw'
        have hb := below_regrown W1 dq osq
        subst hw''
        generalize grow (redrawn W1 dq) osq = w4 at hb ⊢
        replace b0 := b0.below hb
        replace hS := hS.below hb
        replace hB := hB.trans (hb.mono hB.size)
        clear hb q0 q1 q2 q3 b1
        go_wp2_with fail
        go_ret
        exact ⟨rfl, hB⟩
      have d1 : decide ((x.i : Int) < 1) = false := by simp; omega
      by_cases h2 : l < x.i
      · have d2 : decide (l < x.i) = true := by simp; omega
        have h3 := h1
        obtain rfl : t = false := by rw [ht.out]; exact (HF (by unfold okS; rw [decide_eq_false (show ¬ x.i ≤ l by omega), Bool.false_and, Bool.and_false])).out
        clear HF HT h0 hx h1 h2 h3 
        refine wp_region_quiet_below (by kernel_rfl) (by kernel_rfl) ?_
        repeat go_big_quiet_step (fail)
        refine wpQuiet_nil ?_
        intro _ hw'
        obtain ⟨⟨dq, osq⟩, hw''⟩ := hw'
        have hb := below_regrown W1 dq osq
        subst hw''
        generalize grow (redrawn W1 dq) osq = w4 at hb ⊢
        replace b0 := b0.below hb
        replace hS := hS.below hb
        replace hB := hB.trans (hb.mono hB.size)
        clear hb q0 q1 q2 q3 b1
        go_wp2_with fail
        go_ret
        exact ⟨rfl, hB⟩
      have d2 : decide (l < x.i) = false := by simp; omega
      by_cases h3 : 4294967295 < x.n
      · have d3 : decide ((4294967295 : Int) < (x.n : Int)) = true := by simp; omega
        obtain rfl : t = false := by rw [ht.out]; exact (HF (by unfold okS; rw [decide_eq_false (show ¬ x.n ≤ 4294967295 by omega), Bool.false_and, Bool.and_false, Bool.and_false])).out
        clear HF HT h0 hx h1 h2 h3 
        refine wp_region_quiet_below (by kernel_rfl) (by kernel_rfl) ?_
        repeat go_big_quiet_step (fail)
        refine wpQuiet_nil ?_
        intro _ hw'
        obtain ⟨⟨dq, osq⟩, hw''⟩ := hw'
        have hb := below_regrown W1 dq osq
        subst hw''
        generalize grow (redrawn W1 dq) osq = w4 at hb ⊢
        replace b0 := b0.below hb
        replace hS := hS.below hb
        replace hB := hB.trans (hb.mono hB.size)
        clear hb q0 q1 q2 q3 b1
        go_wp2_with fail
        go_ret
        exact ⟨rfl, hB⟩
      have d3 : decide ((4294967295 : Int) < (x.n : Int)) = false := by simp; omega
      have HK : okS l L j x = ahdB L j x := by unfold okS; rw [decide_eq_true (show 1 ≤ x.i by omega), decide_eq_true (show x.i ≤ l by omega), decide_eq_true (show x.n ≤ 4294967295 by omega)]; rfl
      by_cases h4 : j = 0
      · have d4 : decide (0 < j) = false := by simp; omega
        have HA : ahdB L j x = true := by unfold ahdB; rw [if_pos h4]
        have HT' := HT (HK.trans HA)
        clear HF HT h0 hx h1 h2 h3 h4 HK HA
        refine wp_region_quiet_below (by kernel_rfl) (by kernel_rfl) ?_
        repeat go_big_quiet_step (fail)
        refine wpQuiet_nil ?_
        intro _ hw'
        obtain ⟨⟨dq, osq⟩, hw''⟩ := hw'
        have hb := below_regrown W1 dq osq
        subst hw''
        generalize grow (redrawn W1 dq) osq = w4 at hb ⊢
        replace b0 := b0.below hb
        replace hS := hS.below hb
        replace hB := hB.trans (hb.mono hB.size)
        clear hb q0 q1 q2 q3 b1
        go_wp2_with fail
        exact ⟨⟨j + 1, by omega, by go_num, HT', b0, hS, hB⟩, by simp [intOf]; omega⟩
      have d4 : decide (0 < j) = true := by simp; omega
      obtain ⟨i, hi⟩ : ∃ i, Hid (i + 1 = j) := ⟨j - 1, by show _ = _; omega⟩
      have dj : IntKind.i64.wrap ((j : Int) - 1) = (i : Int) := by have := hi.out; rw [IntKind.wrap_i64]; omega
      have hin : i < n := by have := hi.out; omega
      have k0 : (0 : Int) ≤ (i : Int) := by omega
      have k1 : (i : Int) < (n : Int) := by omega
      obtain ⟨y, hy⟩ : ∃ k, L[i]? = some k := ⟨_, List.getElem?_eq_getElem (by rw [hn.out]; exact hin)⟩
      have HA : ahdB L j x = decide (y.i < x.i) := by unfold ahdB; rw [if_neg h4, show j - 1 = i by have := hi.out; omega, hy]
      have q4 : ∀ d os, (grow (redrawn W1 d) os).cell? ⟨b, o + i * 2, none⟩ = some (.int .u64 (y.i : Int)) := cell_regrown ((hS.rng Se.vals_length i y hy) 0 _ rfl)
      by_cases h5 : x.i ≤ y.i
      · have d5 : decide (x.i ≤ y.i) = true := by simp; omega
        obtain rfl : t = false := by rw [ht.out]; exact (HF (HK.trans (HA.trans (decide_eq_false (by omega))))).out
        clear HF HT h0 hx h1 h2 h3 h4 h5 HK HA hy
        refine wp_region_quiet_below (by kernel_rfl) (by kernel_rfl) ?_
        repeat go_big_quiet_step (fail)
        refine wpQuiet_nil ?_
        intro _ hw'
        obtain ⟨⟨dq, osq⟩, hw''⟩ := hw'
        have hb := below_regrown W1 dq osq
        subst hw''
        generalize grow (redrawn W1 dq) osq = w4 at hb ⊢
        replace b0 := b0.below hb
        replace hS := hS.below hb
        replace hB := hB.trans (hb.mono hB.size)
        clear hb q4 q0 q1 q2 q3 b1
        go_wp2_with fail
        go_ret
        exact ⟨rfl, hB⟩
      have d5 : decide (x.i ≤ y.i) = false := by simp; omega
      have HT' := HT (HK.trans (HA.trans (decide_eq_true (by omega))))
      clear HF HT h0 hx h1 h2 h3 h4 h5 HK HA hy
      refine wp_region_quiet_below (by kernel_rfl) (by kernel_rfl) ?_
      repeat go_big_quiet_step (fail)
      refine wpQuiet_nil ?_
      intro _ hw'
      obtain ⟨⟨dq, osq⟩, hw''⟩ := hw'
      have hb := below_regrown W1 dq osq
      subst hw''
      generalize grow (redrawn W1 dq) osq = w4 at hb ⊢
      replace b0 := b0.below hb
      replace hS := hS.below hb
      replace hB := hB.trans (hb.mono hB.size)
      clear hb q4 q0 q1 q2 q3 b1
      go_wp2_with fail
      exact ⟨⟨j + 1, by omega, by go_num, HT', b0, hS, hB⟩, by simp [intOf]; omega⟩
    · obtain rfl : j = n := by omega
      replace ht : Hid (t = decide (j ≤ 4 ∧ l ≤ 65535)) := by show _ = _; rw [ht.out, h0.out, Bool.and_true]
      clear hS h0
      by_cases h4 : j ≤ 4
      · have d4 : (j : Int) ≤ 4 := by omega
        by_cases h5 : l ≤ 65535
        · have d5 : (l : Int) ≤ 65535 := by omega
          obtain rfl : t = true := by rw [ht.out]; exact decide_eq_true ⟨h4, h5⟩
          clear h4 h5
          go_wp2_with fail
          go_ret
          exact ⟨rfl, hB⟩
        · have d5 : ¬ (l : Int) ≤ 65535 := by omega
          obtain rfl : t = false := by rw [ht.out]; exact decide_eq_false (by omega)
          clear h4 h5
          go_wp2_with fail
          go_ret
          exact ⟨rfl, hB⟩
      · have d4 : ¬ (j : Int) ≤ 4 := by omega
        obtain rfl : t = false := by rw [ht.out]; exact decide_eq_false (by omega)
        clear h4
        go_wp2_with fail
        go_ret
        exact ⟨rfl, hB⟩

set_option maxHeartbeats 2000000 in
theorem ris_ok (l : Nat) (L : List Se) (la lb : Option Addr) (lc ld : Nat) (lm : L.length ≤ 9223372036854775807) (w : World) (hA : Li Se.vals 0 la L w) (hC : Li Se.vals 0 lb L w) :
    Calls Try.prog 14 #[.agg #[.int .u64 (l : Int), .slice la L.length lc], .agg #[.int .u64 (l : Int), .slice lb L.length ld]] w fun e w' => e = .returned (.bool true) ∧ Below w.heap.size w w' := by
  obtain ⟨n, hn⟩ : ∃ n, Hid (L.length = n) := ⟨_, rfl⟩
  rw [hn.out] at lm ⊢
  obtain ⟨a1, a2, hB⟩ := two_blk (T0 := 25) (T1 := 25) (C0 := #[.int .u64 (l : Int), .slice la n lc]) (C1 := #[.int .u64 (l : Int), .slice lb n ld]) (w := w) rfl
  go_enter Try.func14, Try.ntmps14
  go_upto_region 1 with fail
  try simp only [Act.put]
  generalize (w.alloc (Obj.cells #[.int .u64 (l : Int), .slice la n lc] 25)).alloc (Obj.cells #[.int .u64 (l : Int), .slice lb n ld] 25) = W at a1 a2 hB ⊢
  have c0 : W.cell? ⟨w.heap.size, 0, none⟩ = some (.int .u64 (l : Int)) := a1.cell 0 _ rfl
  have c1 : W.cell? ⟨w.heap.size, 1, none⟩ = some (.slice la n lc) := a1.cell 1 _ rfl
  have c2 : W.cell? ⟨w.heap.size + 1, 0, none⟩ = some (.int .u64 (l : Int)) := a2.cell 0 _ rfl
  have c3 : W.cell? ⟨w.heap.size + 1, 1, none⟩ = some (.slice lb n ld) := a2.cell 1 _ rfl
  have n0 : ((n : Int) != (n : Int)) = false := by simp
  have n1 : ((l : Int) != (l : Int)) = false := by simp
  replace hA := hA.below hB
  replace hC := hC.below hB
  go_wp2_with fail
  clear n0 n1 c0 c1 c2 c3
  go_loopw [5] (fun iv wr => ∃ j : Nat, j ≤ n ∧ iv = .int .i64 j ∧ Blk w.heap.size #[.int .u64 (l : Int), .slice la n lc] 25 wr ∧ Blk (w.heap.size + 1) #[.int .u64 (l : Int), .slice lb n ld] 25 wr ∧ Li Se.vals 0 la L wr ∧ Li Se.vals 0 lb L wr ∧ Below w.heap.size w wr) (fun iv _ => n - (intOf iv).toNat)
  case atStart => exact ⟨0, by omega, rfl, a1, a2, hA, hC, hB⟩
  case round =>
    clear hA hC a1 a2 hB
    obtain ⟨j, hj, rfl, a1, a2, hA, hC, hB⟩ := hrel
    rename World => wr
    have c1 : wr.cell? ⟨w.heap.size, 1, none⟩ = some (.slice la n lc) := a1.cell 1 _ rfl
    by_cases hjn : j < n
    · have j0 : (j : Int) < (n : Int) := by omega
      have j1 : (0 : Int) ≤ (j : Int) := by omega
      obtain ⟨k, hk⟩ : ∃ k, L[j]? = some k := ⟨_, List.getElem?_eq_getElem (by rw [hn.out]; exact hjn)⟩
      obtain ⟨b, o, rfl, _, hbl, hr⟩ := hA.at Se.vals_length j k hk
      obtain ⟨b', o', rfl, _, hbl', hr'⟩ := hC.at Se.vals_length j k hk
      have kK : ∀ w, (binOp .neq 41 (.agg k.vals.toArray) (.agg k.vals.toArray)).run Try.prog w = .ok (.bool false) w := neqSe k k true (Se.same_self k)
      have la : ∀ w', (∃ p : Regrown, w' = grow (redrawn wr p.d) p.os) → w'.rangeAt b (o + j * 2) k.vals := fun w' ⟨p, e⟩ => e ▸ range_block hr ((below_regrown wr p.d p.os).block b hbl)
      have lb : ∀ w', (∃ p : Regrown, w' = grow (redrawn wr p.d) p.os) → w'.rangeAt b' (o' + j * 2) k.vals := fun w' ⟨p, e⟩ => e ▸ range_block hr' ((below_regrown wr p.d p.os).block b' hbl')
      clear hk hr hr' hbl hbl'
      go_upto_region 6 with fail
      try simp only [Act.put, List.setIfInBounds_toArray, List.set_cons_zero, List.set_cons_succ]
      clear c1
      have q1 : ∀ d os, (grow (redrawn wr d) os).cell? ⟨w.heap.size, 1, none⟩ = some (.slice (some ⟨b, o, none⟩) n lc) := cell_regrown (a1.cell 1 _ rfl)
      have q3 : ∀ d os, (grow (redrawn wr d) os).cell? ⟨w.heap.size + 1, 1, none⟩ = some (.slice (some ⟨b', o', none⟩) n ld) := cell_regrown (a2.cell 1 _ rfl)
      refine wp_region_quiet_below (by kernel_rfl) (by kernel_rfl) ?_
      repeat (first
        | (go_big_quiet_want; refine quiet_range (off := o + j * 2) rfl rfl la Try.underlying41 rfl sizeSe ?_; simp only [Act.put, List.setIfInBounds_toArray, List.set_cons_zero, List.set_cons_succ]; go_big_quiet_on)
        | (go_big_quiet_want; refine quiet_range (off := o' + j * 2) rfl rfl lb Try.underlying41 rfl sizeSe ?_; simp only [Act.put, List.setIfInBounds_toArray, List.set_cons_zero, List.set_cons_succ]; go_big_quiet_on)
        | go_big_quiet_step (fail))
      refine wpQuiet_nil ?_
      intro _ hw'
      obtain ⟨⟨dq, osq⟩, hw''⟩ := hw'
      have hb := below_regrown wr dq osq
      subst hw''
      generalize grow (redrawn wr dq) osq = w1 at hb ⊢
      replace a1 := a1.below hb
      replace a2 := a2.below hb
      replace hA := hA.below hb
      replace hC := hC.below hb
      replace hB := hB.trans (hb.mono hB.size)
      clear hb la lb kK q1 q3
      go_wp2_with fail
      exact ⟨⟨j + 1, by omega, by go_num, a1, a2, hA, hC, hB⟩, by simp [intOf]; omega⟩
    · obtain rfl : j = n := by omega
      clear hA hC a2
      go_wp2_with fail
      go_ret
      exact ⟨rfl, hB⟩

end Go.Proofs.Ythhloomoiihfnaa
