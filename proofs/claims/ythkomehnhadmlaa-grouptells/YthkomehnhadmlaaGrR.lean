/-
  The document's Less, Right, Has, View, Keep and May of tables: what each call answers.
  Each theorem says its own conditions: lists that memory bears.
-/
import Derived.Test.YthkomehnhadmlaaGrB
import Derived.Test.YthkomehnhadmlaaGrN
namespace Go.Proofs.Ythkomehnhadmlaa
set_option maxRecDepth 10000
set_option linter.unusedSimpArgs false
open Go.RowKit Go.Sort
set_option linter.unusedVariables false
set_option linter.unusedSimpArgs false

set_option maxHeartbeats 1000000 in
theorem rgless_ok (a b : Mr) (w : World) : Calls Try.prog 10 #[.agg a.arr, .agg b.arr] w fun e w' => e = .returned (.bool (lsM a b)) ∧ Below w.heap.size w w' := by
  obtain ⟨t, ht⟩ : ∃ t, Hid (lsM a b = t) := ⟨_, rfl⟩
  rw [ht.out]
  obtain ⟨a1, a2, hB⟩ := two_blk (T0 := 35) (T1 := 35) (C0 := a.arr) (C1 := b.arr) (w := w) rfl
  go_enter Try.func10, Try.ntmps10
  go_upto_region 1 with fail
  try simp only [Act.put]
  generalize hW : (w.alloc (Obj.cells a.arr 35)).alloc (Obj.cells b.arr 35) = W at a1 a2 hB ⊢
  clear hW
  have q0 : W.cell? ⟨w.heap.size, 0, none⟩ = some (.int .i64 a.g) := a1.cell 0 _ rfl
  have q1 : W.cell? ⟨w.heap.size, 1, none⟩ = some (.int .i64 a.d) := a1.cell 1 _ rfl
  have q2 : W.cell? ⟨w.heap.size, 2, none⟩ = some (.int .u64 (a.s : Int)) := a1.cell 2 _ rfl
  have r0 : W.cell? ⟨w.heap.size + 1, 0, none⟩ = some (.int .i64 b.g) := a2.cell 0 _ rfl
  have r1 : W.cell? ⟨w.heap.size + 1, 1, none⟩ = some (.int .i64 b.d) := a2.cell 1 _ rfl
  have r2 : W.cell? ⟨w.heap.size + 1, 2, none⟩ = some (.int .u64 (b.s : Int)) := a2.cell 2 _ rfl
  clear a1 a2
  by_cases h1 : a.g = b.g
  · have d1 : (a.g != b.g) = false := by simp [h1]
    by_cases h2 : a.d = b.d
    · have d2 : (a.d != b.d) = false := by simp [h2]
      have e : t = decide (a.s < b.s) := by rw [← ht.out]; unfold lsM; rw [if_pos h1, if_pos h2]
      have e3 : decide ((a.s : Int) < (b.s : Int)) = t := by rw [e]; simp
      replace e3 : Hid _ := e3
      clear h1 h2 e ht
      go_wp2_with fail
      go_ret
      exact ⟨by have := e3.out; simp at this ⊢; exact this, hB⟩
    · have d2 : (a.d != b.d) = true := by simpa using h2
      have e : t = decide (a.d < b.d) := by rw [← ht.out]; unfold lsM; rw [if_pos h1, if_neg h2]
      replace e : Hid _ := e
      clear h1 h2 ht
      go_wp2_with fail
      go_ret
      exact ⟨by rw [e.out]; rfl, hB⟩
  · have d1 : (a.g != b.g) = true := by simpa using h1
    have e : t = decide (a.g < b.g) := by rw [← ht.out]; unfold lsM; rw [if_neg h1]
    replace e : Hid _ := e
    clear h1 ht
    go_wp2_with fail
    go_ret
    exact ⟨by rw [e.out]; rfl, hB⟩

set_option maxHeartbeats 1000000 in
theorem rright_ok (x : Mr) (w : World) : Calls Try.prog 26 #[.agg x.arr] w fun e w' => e = .returned (.bool (rgtM x)) ∧ Below w.heap.size w w' := by
  obtain ⟨t, ht⟩ : ∃ t, Hid (rgtM x = t) := ⟨_, rfl⟩
  rw [ht.out]
  have b1 := blk_new w x.arr 35
  have hB : Below w.heap.size w (w.alloc (.cells x.arr 35)) := below_box w _
  go_enter Try.func26, Try.ntmps26
  go_upto_region 1 with fail
  try simp only [Act.put]
  generalize w.alloc (Obj.cells x.arr 35) = W at b1 hB ⊢
  have q0 : W.cell? ⟨w.heap.size, 0, none⟩ = some (.int .i64 x.g) := b1.cell 0 _ rfl
  have q1 : W.cell? ⟨w.heap.size, 1, none⟩ = some (.int .i64 x.d) := b1.cell 1 _ rfl
  have q2 : W.cell? ⟨w.heap.size, 2, none⟩ = some (.int .u64 (x.s : Int)) := b1.cell 2 _ rfl
  clear b1
  by_cases h0 : 0 ≤ x.g
  · have d0 : decide ((0 : Int) ≤ x.g) = true := decide_eq_true (by omega)
    by_cases h1 : x.g ≤ 7
    · have d1 : decide (x.g ≤ 7) = true := decide_eq_true (by omega)
      by_cases h2 : 0 ≤ x.d
      · have d2 : decide ((0 : Int) ≤ x.d) = true := decide_eq_true (by omega)
        by_cases h3 : x.d ≤ 7
        · have d3 : decide (x.d ≤ 7) = true := decide_eq_true (by omega)
          by_cases h4 : x.s < 65536
          · have d4 : decide ((x.s : Int) < 65536) = true := decide_eq_true (by omega)
            obtain rfl : t = true := ht.out.symm.trans (decide_eq_true ⟨h0, h1, h2, h3, h4⟩)
            clear h0 h1 h2 h3 h4 ht
            go_wp2_with fail
            go_ret
            exact ⟨rfl, hB⟩
          · have d4 : decide ((x.s : Int) < 65536) = false := decide_eq_false (by omega)
            obtain rfl : t = false := ht.out.symm.trans (decide_eq_false (fun h => by omega))
            clear h0 h1 h2 h3 h4 ht
            go_wp2_with fail
            go_ret
            exact ⟨rfl, hB⟩
        · have d3 : decide (x.d ≤ 7) = false := decide_eq_false (by omega)
          obtain rfl : t = false := ht.out.symm.trans (decide_eq_false (fun h => by omega))
          clear h0 h1 h2 h3 ht
          go_wp2_with fail
          go_ret
          exact ⟨rfl, hB⟩
      · have d2 : decide ((0 : Int) ≤ x.d) = false := decide_eq_false (by omega)
        obtain rfl : t = false := ht.out.symm.trans (decide_eq_false (fun h => by omega))
        clear h0 h1 h2 ht
        go_wp2_with fail
        go_ret
        exact ⟨rfl, hB⟩
    · have d1 : decide (x.g ≤ 7) = false := decide_eq_false (by omega)
      obtain rfl : t = false := ht.out.symm.trans (decide_eq_false (fun h => by omega))
      clear h0 h1 ht
      go_wp2_with fail
      go_ret
      exact ⟨rfl, hB⟩
  · have d0 : decide ((0 : Int) ≤ x.g) = false := decide_eq_false (by omega)
    obtain rfl : t = false := ht.out.symm.trans (decide_eq_false (fun h => by omega))
    clear h0 ht
    go_wp2_with fail
    go_ret
    exact ⟨rfl, hB⟩

set_option maxHeartbeats 1000000 in
theorem rhas_ok (x : Mr) (L : List Mr) (la : Option Addr) (lc : Nat) (lm : L.length ≤ 9223372036854775807) (w : World) (hS0 : Li Mr.vals 0 la L w) : Calls Try.prog 19 #[.slice la L.length lc, .agg x.arr] w fun e w' => e = .returned (.bool (hasM3 x L)) ∧ Below w.heap.size w w' := by
  obtain ⟨n, hn⟩ : ∃ n, Hid (L.length = n) := ⟨_, rfl⟩
  obtain ⟨u, hu⟩ : ∃ u, Hid (hasM3 x L = u) := ⟨_, rfl⟩
  rw [hn.out] at lm ⊢
  rw [hu.out]
  have b1 := blk_new w x.arr 35
  have hB := below_box w (.cells x.arr 35)
  go_enter Try.func19, Try.ntmps19
  go_upto_region 1 with fail
  try simp only [Act.put]
  generalize w.alloc (Obj.cells x.arr 35) = W at b1 hB ⊢
  go_wp2_with fail
  go_loopw [5] (fun iv wr => ∃ j : Nat, j ≤ n ∧ iv = .int .i64 j ∧ Hid (∀ k ∈ L.take j, k ≠ x) ∧ Blk w.heap.size x.arr 35 wr ∧ Below w.heap.size w wr) (fun iv _ => n - (intOf iv).toNat)
  case atStart => exact ⟨0, by omega, rfl, fun d h => by simp at h, b1, hB⟩
  case round =>
    clear b1 hB
    obtain ⟨j, hj, rfl, h0, b1, hB⟩ := hrel
    rename World => wr
    by_cases hjn : j < n
    · have j0 : (j : Int) < (n : Int) := by omega
      have j1 : (0 : Int) ≤ (j : Int) := by omega
      obtain ⟨k, hk⟩ : ∃ k, L[j]? = some k := ⟨_, List.getElem?_eq_getElem (by rw [hn.out]; exact hjn)⟩
      obtain ⟨b, o, rfl, _, hbl, hr⟩ := (hS0.below hB).at Mr.vals_length j k hk
      obtain ⟨t, ht⟩ : ∃ t, Hid (Mr.same k x = t) := ⟨_, rfl⟩
      have kK : ∀ w, (binOp .eql 35 (.agg k.vals.toArray) (.agg x.arr)).run Try.prog w = .ok (.bool t) w := eqlMr k x t ht.out
      have lb : ∀ w', (∃ p : Regrown, w' = grow (redrawn wr p.d) p.os) → w'.rangeAt b (o + j * 3) k.vals := fun w' ⟨p, e⟩ => e ▸ range_block hr ((below_regrown wr p.d p.os).block b hbl)
      have la2 := b1.regrown
      have HF : t = true → Hid (u = true) := fun h => by
        show _ = _
        rw [← hu.out, hasM3_iff, ← (Mr.same_iff k x).1 (ht.out.trans h)]
        exact List.mem_of_getElem? hk
      have HN : t = false → Hid (∀ k ∈ L.take (j + 1), k ≠ x) := fun h => by
        intro e he
        rw [List.take_add_one, hk] at he
        rcases List.mem_append.1 he with he | he
        · exact h0.out e he
        · simp at he
          subst he
          rintro rfl
          rw [Mr.same_self] at ht
          have := ht.out.trans h
          cases this
      clear hk hr hbl h0 ht
      go_upto_region 4 with fail
      try simp only [Act.put, List.setIfInBounds_toArray, List.set_cons_zero, List.set_cons_succ]
      refine wp_region_quiet_below (by kernel_rfl) (by kernel_rfl) ?_
      repeat (first
        | (go_big_quiet_want; refine quiet_load rfl rfl la2 Try.underlying35 rfl sizeMr ?_; simp only [Act.put, List.setIfInBounds_toArray, List.set_cons_zero, List.set_cons_succ]; go_big_quiet_on)
        | (go_big_quiet_want; refine quiet_range (off := o + j * 3) rfl rfl lb Try.underlying35 rfl sizeMr ?_; simp only [Act.put, List.setIfInBounds_toArray, List.set_cons_zero, List.set_cons_succ]; go_big_quiet_on)
        | go_big_quiet_step (fail))
      refine wpQuiet_nil ?_
      intro _ hw'
      obtain ⟨⟨dq, osq⟩, hw''⟩ := hw'
      have hb := below_regrown wr dq osq
      subst hw''
      generalize grow (redrawn wr dq) osq = w1 at hb ⊢
      replace b1 := b1.below hb
      replace hB := hB.trans (hb.mono hB.size)
      clear hb la2 lb kK
      cases t with
      | true =>
        have HF' := HF rfl
        clear HN HF b1
        go_wp2_with fail
        go_ret
        exact ⟨by rw [HF'.out]; rfl, hB⟩
      | false =>
        have HN' := HN rfl
        clear HF HN
        go_wp2_with fail
        exact ⟨⟨j + 1, by omega, by go_num, HN', b1, hB⟩, by simp [intOf]; omega⟩
    · obtain rfl : j = n := by omega
      have HF : Hid (u = false) := by
        show _ = _
        rw [← hu.out, Bool.eq_false_iff]
        intro h
        exact h0.out x (by rw [List.take_of_length_le (by rw [hn.out]; omega)]; exact (hasM3_iff x L).1 h) rfl
      clear h0 b1
      go_wp2_with fail
      go_ret
      exact ⟨by rw [HF.out]; rfl, hB⟩

set_option maxHeartbeats 2000000 in
theorem rgview_ok (g : Int) (L : List Mr) (la : Option Addr) (lc : Nat) (lz : L.length * 24 ≤ 140737488355328) (w : World) (hS : Li Mr.vals 0 la L w) : Calls Try.prog 14 #[.slice la L.length lc, .int .i64 g] w fun e w' => MadeMr (viewM g L) w.heap.size e w' ∧ Below w.heap.size w w' := by
  obtain ⟨iI, zI, hI, hz0, hsz, hby, hzs⟩ := infoMr
  obtain ⟨n, hn⟩ : ∃ n, Hid (L.length = n) := ⟨_, rfl⟩
  rw [hn.out] at lz ⊢
  have hG0 : Lg Mr.vals 3 35 w.heap.size (some ⟨w.heap.size, 0, none⟩) 0 [] (w.alloc (.cells #[] 35)) := Lg.of (Ow.empty (blk_new w #[] 35)) (Nat.le_refl _)
  have hB0 := below_box w (.cells #[] 35)
  go_enter Try.func14, Try.ntmps14
  go_wp2_with (refine box_Mr0 rfl rfl ?_)
  go_loopw [5, 6] (fun sv iv wr => ∃ (j m : Nat) (a : Option Addr) (c : Nat), j ≤ n ∧ m ≤ j ∧ iv = .int .i64 j ∧ sv = .slice a m c ∧ Hid ((viewM g (L.take j)).length = m) ∧ Lg Mr.vals 3 35 w.heap.size a c (viewM g (L.take j)) wr ∧ Below w.heap.size w wr) (fun _ iv _ => n - (intOf iv).toNat)
  case atStart => exact ⟨0, 0, _, _, by omega, by omega, rfl, rfl, rfl, hG0, hB0⟩
  case round =>
    clear hG0 hB0
    obtain ⟨j, m, a, c, hj, hm, rfl, rfl, HM, hG, hB⟩ := hrel
    rename World => wr
    by_cases hjn : j < n
    · have j0 : (j : Int) < (n : Int) := by omega
      have j1 : (0 : Int) ≤ (j : Int) := by omega
      obtain ⟨k, hk⟩ : ∃ k, L[j]? = some k := ⟨_, List.getElem?_eq_getElem (by rw [hn.out]; exact hjn)⟩
      obtain ⟨b, o, rfl, _, hbl, hr⟩ := (hS.below hB).at Mr.vals_length j k hk
      obtain ⟨t, ht⟩ : ∃ t, Hid (decide (k.g = g) = t) := ⟨_, rfl⟩
      have HT : t = true → Hid (viewM g (L.take (j + 1)) = viewM g (L.take j) ++ [k]) := fun h => by
        show _ = _
        unfold viewM
        rw [List.take_add_one, hk, List.filter_append]
        have h9 := ht.out.trans h
        simp only [decide_eq_true_eq] at h9
        simp [h9]
      have HN : t = false → Hid (viewM g (L.take (j + 1)) = viewM g (L.take j)) := fun h => by
        show _ = _
        unfold viewM
        rw [List.take_add_one, hk, List.filter_append]
        have h9 := ht.out.trans h
        simp only [decide_eq_false_iff_not] at h9
        simp [h9]
      clear hk hbl
      have c0 : wr.cell? ⟨b, o + j * 3, none⟩ = some (.int .i64 k.g) := by have := hr 0 _ rfl; simpa using this
      have d0 : (k.g == g) = t := by rw [← ht.out, Bool.eq_iff_iff]; simp
      cases t with
      | true =>
        have HT' := HT rfl
        have HL : Hid ((viewM g (L.take (j + 1))).length = m + 1) := by show _ = _; rw [HT'.out, List.length_append, HM.out]; rfl
        clear HN HT ht
        go_wp2_with (first | refine load_range rfl 35 _ rfl k.vals hr rfl Try.underlying35 rfl sizeMr ?_ | (refine box_Mr rfl _ rfl k rfl ?_; intro W2 hl2 hb2; have hG2 := hG.below hb2; have hB2 := below_next hB hb2) | (refine append_any Mr.vals_length rfl _ _ rfl Try.underlying22 hI hz0 hsz hby hzs hG2 hB2.size HM.out rfl (M := [k]) (m := 1) rfl (hl2.src Mr.vals_length Mr.vals_one Try.underlying22 1) rfl (by omega) (by simp only [maxLen]; omega) ?_; intro a3 c3 W3 hG3 hK3 _; have hB3 : Below w.heap.size w W3 := hB2.trans (hK3.below (fun k hk => (hG2.in k hk).1) hB2.size)))
        rw [← HT'.out] at hG3
        exact ⟨⟨j + 1, m + 1, a3, c3, by omega, by omega, by go_num, by simp, HL, hG3, hB3⟩, by simp [intOf]; omega⟩
      | false =>
        have HN' := HN rfl
        have HL : Hid ((viewM g (L.take (j + 1))).length = m) := by show _ = _; rw [HN'.out]; exact HM.out
        rw [← HN'.out] at hG
        clear HT HN hr ht
        go_wp2_with fail
        exact ⟨⟨j + 1, m, a, c, by omega, by omega, by go_num, rfl, HL, hG, hB⟩, by simp [intOf]; omega⟩
    · obtain rfl : j = n := by omega
      have e : L.take j = L := List.take_of_length_le (by rw [hn.out]; exact Nat.le_refl _)
      rw [e] at HM hG
      have HC : MadeMr (viewM g L) w.heap.size (.returned (.slice a m c)) wr := ⟨a, c, by rw [HM.out], hG⟩
      clear e HM hG
      go_wp2_with fail
      go_ret
      exact ⟨HC, hB⟩

theorem and7 (q : Nat) (h : q < 8) : bits BinOp.and IntKind.i64 (q : Int) 7 = (q : Int) := by
  obtain rfl | rfl | rfl | rfl | rfl | rfl | rfl | rfl : q = 0 ∨ q = 1 ∨ q = 2 ∨ q = 3 ∨ q = 4 ∨ q = 5 ∨ q = 6 ∨ q = 7 := by omega
  all_goals decide

set_option maxHeartbeats 2000000 in
theorem rgkeep_ok (m9 : Nat → Nat) (L : List Mr) (la : Option Addr) (lc : Nat) (lz : L.length * 24 ≤ 140737488355328) (w : World) (hS : Li Mr.vals 0 la L w) : Calls Try.prog 16 #[.slice la L.length lc, .agg (mbc m9)] w fun e w' => MadeMr (keepM m9 L) w.heap.size e w' ∧ Below w.heap.size w w' := by
  obtain ⟨iI, zI, hI, hz0, hsz, hby, hzs⟩ := infoMr
  obtain ⟨n, hn⟩ : ∃ n, Hid (L.length = n) := ⟨_, rfl⟩
  rw [hn.out] at lz ⊢
  have b1 := blk_new w (mbc m9) 28
  have hB1 := below_box w (.cells (mbc m9) 28)
  go_enter Try.func16, Try.ntmps16
  go_upto_region 1 with fail
  try simp only [Act.put]
  generalize hV1 : w.alloc (Obj.cells (mbc m9) 28) = V1 at b1 hB1 ⊢
  have hG0 : Lg Mr.vals 3 35 (w.heap.size + 1) (some ⟨V1.heap.size, 0, none⟩) 0 [] (V1.alloc (.cells #[] 35)) := Lg.of (Ow.empty (blk_new V1 #[] 35)) b1.lt
  have hB0 := below_next hB1 (below_box V1 (.cells #[] 35))
  have b2 := b1.below (below_box V1 (.cells #[] 35))
  clear hV1
  go_wp2_with (refine box_Mr0 rfl rfl ?_)
  go_loopw [5, 6] (fun sv iv wr => ∃ (j m : Nat) (a : Option Addr) (c : Nat), j ≤ n ∧ m ≤ j ∧ iv = .int .i64 j ∧ sv = .slice a m c ∧ Hid ((keepM m9 (L.take j)).length = m) ∧ Lg Mr.vals 3 35 (w.heap.size + 1) a c (keepM m9 (L.take j)) wr ∧ Blk w.heap.size (mbc m9) 28 wr ∧ Below w.heap.size w wr) (fun _ iv _ => n - (intOf iv).toNat)
  case atStart => exact ⟨0, 0, _, _, by omega, by omega, rfl, rfl, rfl, hG0, b2, hB0⟩
  case round =>
    clear hG0 hB0 b1 b2 hB1
    obtain ⟨j, m, a, c, hj, hm, rfl, rfl, HM, hG, hbM, hB⟩ := hrel
    rename World => wr
    by_cases hjn : j < n
    · have j0 : (j : Int) < (n : Int) := by omega
      have j1 : (0 : Int) ≤ (j : Int) := by omega
      obtain ⟨k, hk⟩ : ∃ k, L[j]? = some k := ⟨_, List.getElem?_eq_getElem (by rw [hn.out]; exact hjn)⟩
      obtain ⟨b, o, rfl, _, hbl, hr⟩ := (hS.below hB).at Mr.vals_length j k hk
      obtain ⟨t, ht⟩ : ∃ t, Hid (decide (0 ≤ k.d ∧ k.d ≤ 7 ∧ m9 k.d.toNat ≠ 0) = t) := ⟨_, rfl⟩
      have HT : t = true → Hid (keepM m9 (L.take (j + 1)) = keepM m9 (L.take j) ++ [k]) := fun h => by
        show _ = _
        unfold keepM
        rw [List.take_add_one, hk, List.filter_append]
        have h9 := ht.out.trans h
        simp only [decide_eq_true_eq] at h9
        simp [h9]
      have HN : t = false → Hid (keepM m9 (L.take (j + 1)) = keepM m9 (L.take j)) := fun h => by
        show _ = _
        unfold keepM
        rw [List.take_add_one, hk, List.filter_append]
        have h9 := ht.out.trans h
        simp only [decide_eq_false_iff_not] at h9
        simp [h9]
      clear hk hbl
      have c0 : wr.cell? ⟨b, o + j * 3 + 1, none⟩ = some (.int .i64 k.d) := by have := hr 1 _ rfl; simpa using this
      have c0' : wr.cell? ⟨b, 1 + (o + j * 3), none⟩ = some (.int .i64 k.d) := by rw [Nat.add_comm]; exact c0
      by_cases h0 : 0 ≤ k.d
      · by_cases h7 : k.d ≤ 7
        · obtain ⟨q, hq⟩ : ∃ q : Nat, Hid (k.d = (q : Int)) := ⟨k.d.toNat, by show _ = _; omega⟩
          have q8 : q < 8 := by have := hq.out; omega
          have c1 : wr.cell? ⟨w.heap.size, q, none⟩ = some (.int .u32 (m9 q : Int)) := hbM.cell q _ (mbc_get m9 q q8)
          have a7 : bits BinOp.and IntKind.i64 (q : Int) 7 = (q : Int) := and7 q q8
          have g0 : decide ((0 : Int) ≤ (q : Int)) = true := decide_eq_true (by omega)
          have g1 : decide ((q : Int) ≤ 7) = true := decide_eq_true (by omega)
          have g2 : (0 : Int) ≤ (q : Int) := by omega
          have g3 : (q : Int) < 8 := by omega
          have d9 : ((m9 q : Int) != 0) = t := by
            rw [← ht.out, hq.out, Bool.eq_iff_iff]
            simp
            omega
          rw [hq.out] at c0 c0'
          clear h0 h7 hq q8
          cases t with
          | true =>
            have HT' := HT rfl
            have HL : Hid ((keepM m9 (L.take (j + 1))).length = m + 1) := by show _ = _; rw [HT'.out, List.length_append, HM.out]; rfl
            clear HN HT ht
            go_wp2_with (first | refine load_range rfl 35 _ rfl k.vals hr rfl Try.underlying35 rfl sizeMr ?_ | (refine box_Mr rfl _ rfl k rfl ?_; intro W2 hl2 hb2; have hG2 := hG.below hb2; have hB2 := below_next hB hb2) | (refine append_any Mr.vals_length rfl _ _ rfl Try.underlying22 hI hz0 hsz hby hzs hG2 (hbM.below hb2).lt HM.out rfl (M := [k]) (m := 1) rfl (hl2.src Mr.vals_length Mr.vals_one Try.underlying22 1) rfl (by omega) (by simp only [maxLen]; omega) ?_; intro a3 c3 W3 hG3 hK3 _; have hB3 : Below w.heap.size w W3 := hB2.trans (hK3.below (fun k hk => by have h9 := (hG2.in k hk).1; omega) hB2.size)))
            rw [← HT'.out] at hG3
            have hbM3 := (hbM.below hb2).kp hK3 (fun hm9 => by have h9 := (hG2.in _ hm9).1; omega)
            exact ⟨⟨j + 1, m + 1, a3, c3, by omega, by omega, by go_num, by simp, HL, hG3, hbM3, hB3⟩, by simp [intOf]; omega⟩
          | false =>
            have HN' := HN rfl
            have HL : Hid ((keepM m9 (L.take (j + 1))).length = m) := by show _ = _; rw [HN'.out]; exact HM.out
            rw [← HN'.out] at hG
            clear HT HN hr ht
            go_wp2_with fail
            exact ⟨⟨j + 1, m, a, c, by omega, by omega, by go_num, rfl, HL, hG, hbM, hB⟩, by simp [intOf]; omega⟩
        · have g0 : decide ((0 : Int) ≤ k.d) = true := decide_eq_true (by omega)
          have g1 : decide (k.d ≤ 7) = false := decide_eq_false (by omega)
          obtain rfl : t = false := ht.out.symm.trans (decide_eq_false (fun h => h7 h.2.1))
          clear h0 h7
          have HN' := HN rfl
          have HL : Hid ((keepM m9 (L.take (j + 1))).length = m) := by show _ = _; rw [HN'.out]; exact HM.out
          rw [← HN'.out] at hG
          clear HT HN hr ht
          go_wp2_with fail
          exact ⟨⟨j + 1, m, a, c, by omega, by omega, by go_num, rfl, HL, hG, hbM, hB⟩, by simp [intOf]; omega⟩
      · have g0 : decide ((0 : Int) ≤ k.d) = false := decide_eq_false (by omega)
        obtain rfl : t = false := ht.out.symm.trans (decide_eq_false (fun h => h0 h.1))
        clear h0
        have HN' := HN rfl
        have HL : Hid ((keepM m9 (L.take (j + 1))).length = m) := by show _ = _; rw [HN'.out]; exact HM.out
        rw [← HN'.out] at hG
        clear HT HN hr ht
        go_wp2_with fail
        exact ⟨⟨j + 1, m, a, c, by omega, by omega, by go_num, rfl, HL, hG, hbM, hB⟩, by simp [intOf]; omega⟩
    · obtain rfl : j = n := by omega
      have e : L.take j = L := List.take_of_length_le (by rw [hn.out]; exact Nat.le_refl _)
      rw [e] at HM hG
      have HC : MadeMr (keepM m9 L) w.heap.size (.returned (.slice a m c)) wr := ⟨a, c, by rw [HM.out], Lg.mono hG (by omega)⟩
      clear e HM hG
      go_wp2_with fail
      go_ret
      exact ⟨HC, hB⟩

set_option maxHeartbeats 4000000 in
theorem rgmay_ok (L : List Mr) (la : Option Addr) (lc : Nat) (lm : L.length ≤ 9223372036854775807) (w : World) (hS : Li Mr.vals 0 la L w) : Calls Try.prog 18 #[.slice la L.length lc] w fun e w' => e = .returned (.bool (mayMB L)) ∧ Below w.heap.size w w' := by
  obtain ⟨n, hn⟩ : ∃ n, Hid (L.length = n) := ⟨_, rfl⟩
  have HM : Hid (mayMB L = okMTo L n) := by show okMTo L L.length = _; rw [hn.out]
  rw [HM.out]
  rw [hn.out] at lm ⊢
  clear HM
  go_enter Try.func18, Try.ntmps18
  go_wp2_with fail
  go_loopw [3] (fun iv wr => ∃ j : Nat, j ≤ n ∧ iv = .int .i64 j ∧ Hid (okMTo L j = true) ∧ Below w.heap.size w wr) (fun iv _ => n - (intOf iv).toNat)
  case atStart => exact ⟨0, by omega, rfl, okMTo_zero L, Below.refl _ _⟩
  case round =>
    obtain ⟨j, hj, rfl, h0, hB⟩ := hrel
    rename World => wr
    by_cases hjn : j < n
    · have j0 : (j : Int) < (n : Int) := by omega
      have j1 : (0 : Int) ≤ (j : Int) := by omega
      obtain ⟨x, hx⟩ : ∃ k, L[j]? = some k := ⟨_, List.getElem?_eq_getElem (by rw [hn.out]; exact hjn)⟩
      have HS := okMTo_succ L j x hx
      have pr := rright_ok x
      have pl := fun y => rgless_ok y x
      have hSV := hS.below hB
      obtain ⟨b, o, rfl, _, hbl, hr⟩ := hSV.at Mr.vals_length j x hx
      go_upto_region 4 with fail
      try simp only [Act.put, List.setIfInBounds_toArray, List.set_cons_zero, List.set_cons_succ]
      clear hbl hr
      cases hr9 : rgtM x with
      | false =>
        rw [hr9] at pr
        have HF : Hid (okMTo L n = false) := by
          show _ = _
          rw [← hn.out]
          exact okMTo_no L j x hx (by cases j <;> simp [okM, hr9])
        clear hr9 HS pl h0
        refine wp_region_held_drew (S := fun v => Below wr.heap.size wr v) (by kernel_rfl) ((Below.refl _ _).drew) (fun hHeld => ?_)
        refine tkQ 0 hHeld ?_
        try simp only [yy]
        refine tkQ 1 hHeld ?_
        try simp only [yy]
        refine tkQ 2 hHeld ?_
        try simp only [yy]
        refine' tkH 3 (v := _) rfl (by kernel_rfl) (fun _ _ _ h => h) (yieldsIf_load_mid (by rfl) _ _ rfl b (o + j * 3) rfl x.vals _ ?hS96 Try.underlying35 rfl sizeMr) hHeld ?rest96
        case hS96 => exact fun w h => ((hSV.below h).rng Mr.vals_length j x hx)
        try simp only [yy]
        refine rd1 4 (fun K hK => ?_)
        go_simp
        go_wp2_with (refine (pr _).mono ?_; rintro r u1 ⟨rfl, hb⟩)
        refine hK.out _ _ (below_next hHeld hb) (fun hHeld => ?_)
        clear hK K hb
        refine tkQ 5 hHeld ?_
        try simp only [yy]
        refine tkQ 6 hHeld ?_
        try simp only [yy]
        refine tkU 7 hHeld ?_
        try simp only [yy]
        refine tkU 8 hHeld ?_
        try simp only [yy]
        refine tkU 9 hHeld ?_
        try simp only [yy]
        refine tkU 10 hHeld ?_
        try simp only [yy]
        refine tkU 11 hHeld ?_
        try simp only [yy]
        refine tkU 12 hHeld ?_
        try simp only [yy]
        refine tkU 13 hHeld ?_
        try simp only [yy]
        refine tkU 14 hHeld ?_
        try simp only [yy]
        refine tkU 15 hHeld ?_
        try simp only [yy]
        refine tkU 16 hHeld ?_
        try simp only [yy]
        refine tkU 17 hHeld ?_
        try simp only [yy]
        refine tkU 18 hHeld ?_
        try simp only [yy]
        refine tkU 19 hHeld ?_
        try simp only [yy]
        refine tkU 20 hHeld ?_
        try simp only [yy]
        refine tkU 21 hHeld ?_
        try simp only [yy]
        refine tkQ 22 hHeld ?_
        try simp only [yy]
        refine wpAnyH_done (by kernel_rfl) ?_ _
        replace hB := below_next hB hHeld
        go_wp2_with fail
        go_ret
        exact ⟨by rw [HF.out]; rfl, hB⟩
      | true =>
        rw [hr9] at pr
        rcases Nat.eq_zero_or_pos j with h00 | h00
        · have d0 : decide ((0 : Int) < (j : Int)) = false := decide_eq_false (by omega)
          have d00 : decide (0 < j) = false := decide_eq_false (by omega)
          have HT : Hid (okMTo L (j + 1) = true) := by
            show _ = _
            rw [HS, h0.out]
            subst h00
            rw [okM_zero, hr9]
            rfl
          clear hr9 HS pl h0 h00
          refine wp_region_held_drew (S := fun v => Below wr.heap.size wr v) (by kernel_rfl) ((Below.refl _ _).drew) (fun hHeld => ?_)
          refine tkQ 0 hHeld ?_
          try simp only [yy]
          refine tkQ 1 hHeld ?_
          try simp only [yy]
          refine tkQ 2 hHeld ?_
          try simp only [yy]
          refine' tkH 3 (v := _) rfl (by kernel_rfl) (fun _ _ _ h => h) (yieldsIf_load_mid (by rfl) _ _ rfl b (o + j * 3) rfl x.vals _ ?hS118 Try.underlying35 rfl sizeMr) hHeld ?rest118
          case hS118 => exact fun w h => ((hSV.below h).rng Mr.vals_length j x hx)
          try simp only [yy]
          refine rd1 4 (fun K hK => ?_)
          go_simp
          go_wp2_with (refine (pr _).mono ?_; rintro r u1 ⟨rfl, hb⟩)
          refine hK.out _ _ (below_next hHeld hb) (fun hHeld => ?_)
          clear hK K hb
          refine tkQ 5 hHeld ?_
          try simp only [yy]
          refine tkQ 6 hHeld ?_
          try simp only [yy]
          refine tkQ 7 hHeld ?_
          try simp only [yy]
          refine tkQ 8 hHeld ?_
          try simp only [yy]
          refine tkQ 9 hHeld ?_
          try simp only [yy]
          refine tkU 10 hHeld ?_
          try simp only [yy]
          refine tkU 11 hHeld ?_
          try simp only [yy]
          refine tkU 12 hHeld ?_
          try simp only [yy]
          refine tkU 13 hHeld ?_
          try simp only [yy]
          refine tkU 14 hHeld ?_
          try simp only [yy]
          refine tkU 15 hHeld ?_
          try simp only [yy]
          refine tkU 16 hHeld ?_
          try simp only [yy]
          refine tkU 17 hHeld ?_
          try simp only [yy]
          refine tkU 18 hHeld ?_
          try simp only [yy]
          refine tkU 19 hHeld ?_
          try simp only [yy]
          refine tkU 20 hHeld ?_
          try simp only [yy]
          refine tkQ 21 hHeld ?_
          try simp only [yy]
          refine tkQ 22 hHeld ?_
          try simp only [yy]
          refine wpAnyH_done (by kernel_rfl) ?_ _
          replace hB := below_next hB hHeld
          go_wp2_with fail
          exact ⟨⟨j + 1, by omega, by go_num, HT, hB⟩, by simp [intOf]; omega⟩
        · obtain ⟨i, hi⟩ : ∃ i, Hid (j = i + 1) := ⟨j - 1, by show _ = _; omega⟩
          have hin : i < n := by have := hi.out; omega
          obtain ⟨y, hy⟩ : ∃ k, L[i]? = some k := ⟨_, List.getElem?_eq_getElem (by rw [hn.out]; exact hin)⟩
          have d0 : decide ((0 : Int) < (j : Int)) = true := decide_eq_true (by omega)
          have d00 : decide (0 < j) = true := decide_eq_true (by omega)
          have i0 : (0 : Int) ≤ (i : Int) := by omega
          have i1 : (i : Int) < (n : Int) := by omega
          have iw : IntKind.i64.wrap ((j : Int) - 1) = (i : Int) := by have := hi.out; rw [IntKind.wrap_i64]; omega
          replace pl := pl y
          have HO : okM L j x = lsM y x := by rw [hi.out, okM_some L i x y hy, hr9]; rfl
          cases hl : lsM y x with
          | true =>
            rw [hl] at pl
            have HT : Hid (okMTo L (j + 1) = true) := by
              show _ = _
              rw [HS, h0.out, HO, hl]
              rfl
            clear hr9 HS h0 h00 HO hl hi hin
            refine wp_region_held_drew (S := fun v => Below wr.heap.size wr v) (by kernel_rfl) ((Below.refl _ _).drew) (fun hHeld => ?_)
            refine tkQ 0 hHeld ?_
            try simp only [yy]
            refine tkQ 1 hHeld ?_
            try simp only [yy]
            refine tkQ 2 hHeld ?_
            try simp only [yy]
            refine' tkH 3 (v := _) rfl (by kernel_rfl) (fun _ _ _ h => h) (yieldsIf_load_mid (by rfl) _ _ rfl b (o + j * 3) rfl x.vals _ ?hS140 Try.underlying35 rfl sizeMr) hHeld ?rest140
            case hS140 => exact fun w h => ((hSV.below h).rng Mr.vals_length j x hx)
            try simp only [yy]
            refine rd1 4 (fun K hK => ?_)
            go_simp
            go_wp2_with (refine (pr _).mono ?_; rintro r u1 ⟨rfl, hb⟩)
            refine hK.out _ _ (below_next hHeld hb) (fun hHeld => ?_)
            clear hK K hb
            refine tkQ 5 hHeld ?_
            try simp only [yy]
            refine tkQ 6 hHeld ?_
            try simp only [yy]
            refine tkQ 7 hHeld ?_
            try simp only [yy]
            refine tkQ 8 hHeld ?_
            try simp only [yy]
            refine tkQ 9 hHeld ?_
            try simp only [yy]
            refine tkQ 10 hHeld ?_
            try simp only [yy]
            refine tkQ 11 hHeld ?_
            try simp only [yy]
            refine tkQ 12 hHeld ?_
            try simp only [yy]
            refine tkQ 13 hHeld ?_
            try simp only [yy]
            refine' tkH 14 (v := _) rfl (by kernel_rfl) (fun _ _ _ h => h) (yieldsIf_load_mid (by rfl) _ _ rfl b (o + i * 3) rfl y.vals _ ?hS150 Try.underlying35 rfl sizeMr) hHeld ?rest150
            case hS150 => exact fun w h => ((hSV.below h).rng Mr.vals_length i y hy)
            try simp only [yy]
            refine tkQ 15 hHeld ?_
            try simp only [yy]
            refine tkQ 16 hHeld ?_
            try simp only [yy]
            refine tkQ 17 hHeld ?_
            try simp only [yy]
            refine' tkH 18 (v := _) rfl (by kernel_rfl) (fun _ _ _ h => h) (yieldsIf_load_mid (by rfl) _ _ rfl b (o + j * 3) rfl x.vals _ ?hS154 Try.underlying35 rfl sizeMr) hHeld ?rest154
            case hS154 => exact fun w h => ((hSV.below h).rng Mr.vals_length j x hx)
            try simp only [yy]
            refine rd1 19 (fun K hK => ?_)
            go_simp
            go_wp2_with (refine (pl _).mono ?_; rintro r u2 ⟨rfl, hb⟩)
            refine hK.out _ _ (below_next hHeld hb) (fun hHeld => ?_)
            clear hK K hb
            refine tkQ 20 hHeld ?_
            try simp only [yy]
            refine tkQ 21 hHeld ?_
            try simp only [yy]
            refine tkQ 22 hHeld ?_
            try simp only [yy]
            refine wpAnyH_done (by kernel_rfl) ?_ _
            replace hB := below_next hB hHeld
            go_wp2_with fail
            exact ⟨⟨j + 1, by omega, by go_num, HT, hB⟩, by simp [intOf]; omega⟩
          | false =>
            rw [hl] at pl
            have HF : Hid (okMTo L n = false) := by
              show _ = _
              rw [← hn.out]
              exact okMTo_no L j x hx (HO.trans hl)
            clear hr9 HS h0 h00 HO hl hi hin
            refine wp_region_held_drew (S := fun v => Below wr.heap.size wr v) (by kernel_rfl) ((Below.refl _ _).drew) (fun hHeld => ?_)
            refine tkQ 0 hHeld ?_
            try simp only [yy]
            refine tkQ 1 hHeld ?_
            try simp only [yy]
            refine tkQ 2 hHeld ?_
            try simp only [yy]
            refine' tkH 3 (v := _) rfl (by kernel_rfl) (fun _ _ _ h => h) (yieldsIf_load_mid (by rfl) _ _ rfl b (o + j * 3) rfl x.vals _ ?hS161 Try.underlying35 rfl sizeMr) hHeld ?rest161
            case hS161 => exact fun w h => ((hSV.below h).rng Mr.vals_length j x hx)
            try simp only [yy]
            refine rd1 4 (fun K hK => ?_)
            go_simp
            go_wp2_with (refine (pr _).mono ?_; rintro r u1 ⟨rfl, hb⟩)
            refine hK.out _ _ (below_next hHeld hb) (fun hHeld => ?_)
            clear hK K hb
            refine tkQ 5 hHeld ?_
            try simp only [yy]
            refine tkQ 6 hHeld ?_
            try simp only [yy]
            refine tkQ 7 hHeld ?_
            try simp only [yy]
            refine tkQ 8 hHeld ?_
            try simp only [yy]
            refine tkQ 9 hHeld ?_
            try simp only [yy]
            refine tkQ 10 hHeld ?_
            try simp only [yy]
            refine tkQ 11 hHeld ?_
            try simp only [yy]
            refine tkQ 12 hHeld ?_
            try simp only [yy]
            refine tkQ 13 hHeld ?_
            try simp only [yy]
            refine' tkH 14 (v := _) rfl (by kernel_rfl) (fun _ _ _ h => h) (yieldsIf_load_mid (by rfl) _ _ rfl b (o + i * 3) rfl y.vals _ ?hS171 Try.underlying35 rfl sizeMr) hHeld ?rest171
            case hS171 => exact fun w h => ((hSV.below h).rng Mr.vals_length i y hy)
            try simp only [yy]
            refine tkQ 15 hHeld ?_
            try simp only [yy]
            refine tkQ 16 hHeld ?_
            try simp only [yy]
            refine tkQ 17 hHeld ?_
            try simp only [yy]
            refine' tkH 18 (v := _) rfl (by kernel_rfl) (fun _ _ _ h => h) (yieldsIf_load_mid (by rfl) _ _ rfl b (o + j * 3) rfl x.vals _ ?hS175 Try.underlying35 rfl sizeMr) hHeld ?rest175
            case hS175 => exact fun w h => ((hSV.below h).rng Mr.vals_length j x hx)
            try simp only [yy]
            refine rd1 19 (fun K hK => ?_)
            go_simp
            go_wp2_with (refine (pl _).mono ?_; rintro r u2 ⟨rfl, hb⟩)
            refine hK.out _ _ (below_next hHeld hb) (fun hHeld => ?_)
            clear hK K hb
            refine tkQ 20 hHeld ?_
            try simp only [yy]
            refine tkQ 21 hHeld ?_
            try simp only [yy]
            refine tkQ 22 hHeld ?_
            try simp only [yy]
            refine wpAnyH_done (by kernel_rfl) ?_ _
            replace hB := below_next hB hHeld
            go_wp2_with fail
            go_ret
            exact ⟨by rw [HF.out]; rfl, hB⟩
    · obtain rfl : j = n := by omega
      go_wp2_with fail
      go_ret
      exact ⟨by rw [h0.out]; rfl, hB⟩

end Go.Proofs.Ythkomehnhadmlaa
