/-
  May, and the document's Ordered, Is, May, Same and Has.
  Each theorem says its own conditions.
-/
import Derived.Test.YtmnpbjaofemelaaQuA
import Derived.Test.YtmnpbjaofemelaaRdS
import Derived.Test.YtmnpbjaofemelaaRbB
import Derived.Lib.QuietBelow
namespace Go.Proofs.Ytmnpbjaofemelaa
set_option maxRecDepth 10000
open Go.RowKit Go.Sort
set_option linter.unusedVariables false
set_option linter.unusedSimpArgs false

set_option maxHeartbeats 4000000 in
theorem qmay_ok (L : List Wt) (la : Option Addr) (lc : Nat) (lm : L.length ≤ 9223372036854775807) (w : World) (hS : Li Wt.vals 0 la L w) : Calls Try.prog 15 #[.slice la L.length lc] w fun e w' => e = .returned (.bool (mayW L)) ∧ Below w.heap.size w w' := by
  obtain ⟨n, hn⟩ : ∃ n, Hid (L.length = n) := ⟨_, rfl⟩
  obtain ⟨R, hR⟩ : ∃ R, Hid (mayM L n = R) := ⟨_, rfl⟩
  have e0 : mayW L = R := by unfold mayW; rw [hn.out]; exact hR.out
  rw [e0]
  rw [hn.out] at lm ⊢
  have HS : Hid (Li Wt.vals 0 la L w) := hS
  clear hS e0
  go_enter Try.func15, Try.ntmps15
  go_wp2_with fail
  go_loopw [7] (fun iv wr => ∃ j : Nat, j ≤ n ∧ iv = .int .i64 j ∧ Hid (mayM L j = true) ∧ Below w.heap.size w wr) (fun iv _ => n - (intOf iv).toNat)
  case atStart => exact ⟨0, by omega, rfl, rfl, Below.refl _ _⟩
  case round =>
    obtain ⟨j, hj, rfl, HM, hB⟩ := hrel
    rename World => wr
    by_cases hjn : j < n
    · have j0 : (j : Int) < (n : Int) := by omega
      have j1 : (0 : Int) ≤ (j : Int) := by omega
      obtain ⟨x, hx⟩ : ∃ k, L[j]? = some k := ⟨_, List.getElem?_eq_getElem (by rw [hn.out]; exact hjn)⟩
      obtain ⟨b, o, rfl, _, hbl, hr⟩ := (HS.out.below hB).at Wt.vals_length j x hx
      have HST : Hid (stepM L j x = true → mayM L (j + 1) = true) := fun h => by rw [mayM_next L j x hx, HM.out, h]; rfl
      have HNO : Hid (stepM L j x = false → R = false) := fun h => by rw [← hR.out]; exact mayM_no L j n hn.out hjn (by rw [mayM_next L j x hx, h, Bool.and_false])
      obtain ⟨z, hz⟩ : ∃ z, noE x.e = z := ⟨_, rfl⟩
      have HZ : Hid (noE x.e = z) := hz
      have pe := empty_ok x
      rw [hz] at pe
      clear hz HM hx
      have bx := blk_new wr x.arr 47
      have hb := below_box wr (.cells x.arr 47)
      have hr' := hr
      go_upto_region 4 with (first | refine load_range rfl 47 _ rfl x.vals hr' rfl Try.underlying47 rfl sizeWt ?_ | refine alloc_zero zeroWt rfl rfl ?_ | refine store_new rfl 47 _ _ rfl (cells := x.arr) rfl rfl sizeWt rfl x.arr_one ?_)
      try simp only [Act.put]
      generalize wr.alloc (Obj.cells x.arr 47) = V at bx hb ⊢
      replace hB := hB.trans (hb.mono hB.size)
      clear hb hr' hr hbl
      generalize wr.heap.size = z1 at bx ⊢
      have la2 := bx.regrown
      have lpx : ∀ w', (∃ p : Regrown, w' = grow (redrawn V p.d) p.os) → w'.rangeAt z1 0 x.p.vals := fun w' h => by have := World.rangeAt_of_block (la2 w' h) 0 x.p.vals.length; rw [x.place] at this; exact this
      have pE : ∀ d' os, Calls Try.prog 28 #[.agg x.arr] (grow (redrawn V d') os) fun e w'' => e = .returned (.bool z) ∧ ∃ p : Regrown, w'' = grow (redrawn V p.d) p.os := fun d' os => Calls.regrown_of (pe _)
      cases z with
      | true =>
        obtain rfl := HNO.out (by unfold stepM; rw [HZ.out]; rfl)
        clear HST HNO HZ
        refine wp_region_quiet_below (by kernel_rfl) (by kernel_rfl) ?_
        repeat (first
          | (go_big_quiet_want; refine quiet_load rfl rfl la2 Try.underlying47 rfl sizeWt ?_; simp only [Act.put, List.setIfInBounds_toArray, List.set_cons_zero, List.set_cons_succ]; go_big_quiet_on)
          | go_big_quiet_step (first | with_reducible exact pE _ _))
        refine wpQuiet_nil ?_
        intro _ hw'
        obtain ⟨⟨dq, osq⟩, hw''⟩ := hw'
        have hb := below_regrown V dq osq
        subst hw''
        generalize grow (redrawn V dq) osq = w1 at hb ⊢
        replace hB := hB.trans (hb.mono hB.size)
        clear hb
        go_wp2_with fail
        go_ret
        exact ⟨rfl, hB⟩
      | false =>
        by_cases h0 : j = 0
        · have g0 : decide (0 < j) = false := decide_eq_false (by omega)
          have HN := HST.out (by rw [h0]; unfold stepM; rw [HZ.out]; rfl)
          have HN2 : Hid _ := HN
          clear HN HST HNO HZ h0
          refine wp_region_quiet_below (by kernel_rfl) (by kernel_rfl) ?_
          repeat (first
            | (go_big_quiet_want; refine quiet_load rfl rfl la2 Try.underlying47 rfl sizeWt ?_; simp only [Act.put, List.setIfInBounds_toArray, List.set_cons_zero, List.set_cons_succ]; go_big_quiet_on)
            | go_big_quiet_step (first | with_reducible exact pE _ _))
          refine wpQuiet_nil ?_
          intro _ hw'
          obtain ⟨⟨dq, osq⟩, hw''⟩ := hw'
          have hb := below_regrown V dq osq
          subst hw''
          generalize grow (redrawn V dq) osq = w1 at hb ⊢
          replace hB := hB.trans (hb.mono hB.size)
          clear hb
          go_wp2_with fail
          exact ⟨⟨j + 1, by omega, by go_num, HN2, hB⟩, by simp [intOf]; omega⟩
        · have g0 : decide (0 < j) = true := decide_eq_true (by omega)
          have d1 : (0 : Int) ≤ (j : Int) - 1 := by omega
          have d2 : (j : Int) - 1 < (n : Int) := by omega
          obtain ⟨y, hy⟩ : ∃ k, L[j - 1]? = some k := ⟨_, List.getElem?_eq_getElem (by rw [hn.out]; omega)⟩
          obtain ⟨b', o', e', _, hbl', hry⟩ := (HS.out.below hB).at Wt.vals_length (j - 1) y hy
          cases e'
          have lpy : ∀ w', (∃ p : Regrown, w' = grow (redrawn V p.d) p.os) → w'.rangeAt b (o + (j - 1) * 9) y.p.vals := fun w' ⟨p, e⟩ q v hv => (e ▸ range_block hry ((below_regrown V p.d p.os).block b hbl') : w'.rangeAt b (o + (j - 1) * 9) y.vals) q v (by
            obtain ⟨hq, _⟩ := List.getElem?_eq_some_iff.1 hv
            rw [show y.vals = y.p.vals ++ y.e.vals from rfl, List.getElem?_append_left hq]; exact hv)
          have pb := bef_ok y.p x.p
          obtain ⟨t, ht⟩ : ∃ t, befB y.p x.p = t := ⟨_, rfl⟩
          rw [ht] at pb
          have HE : Hid (stepM L j x = t) := by
            show _ = _
            obtain ⟨i, rfl⟩ : ∃ i, j = i + 1 := ⟨j - 1, by omega⟩
            unfold stepM
            rw [Nat.add_sub_cancel] at hy
            simp only [HZ.out, hy, ht]
            rfl
          have pB : ∀ d' os, Calls Try.prog 31 #[.agg y.p.vals.toArray, .agg x.p.vals.toArray] (grow (redrawn V d') os) fun e w'' => e = .returned (.bool t) ∧ ∃ p : Regrown, w'' = grow (redrawn V p.d) p.os := fun d' os => Calls.regrown_of (pb _)
          clear ht hy hry hbl' pb h0 HZ
          cases t with
          | true =>
            have HN := HST.out HE.out
            have HN2 : Hid _ := HN
            clear HN HST HNO HE
            refine wp_region_quiet_below (by kernel_rfl) (by kernel_rfl) ?_
            repeat (first
              | (go_big_quiet_want; refine quiet_load rfl rfl la2 Try.underlying47 rfl sizeWt ?_; simp only [Act.put, List.setIfInBounds_toArray, List.set_cons_zero, List.set_cons_succ]; go_big_quiet_on)
              | (go_big_quiet_want; refine quiet_range (off := 0) rfl rfl lpx Try.underlying42 rfl sizePl ?_; simp only [Act.put, List.setIfInBounds_toArray, List.set_cons_zero, List.set_cons_succ]; go_big_quiet_on)
              | (go_big_quiet_want; refine quiet_range (off := o + (j - 1) * 9) rfl rfl lpy Try.underlying42 rfl sizePl ?_; simp only [Act.put, List.setIfInBounds_toArray, List.set_cons_zero, List.set_cons_succ]; go_big_quiet_on)
              | go_big_quiet_step (first | with_reducible exact pE _ _ | with_reducible exact pB _ _))
            refine wpQuiet_nil ?_
            intro _ hw'
            obtain ⟨⟨dq, osq⟩, hw''⟩ := hw'
            have hb := below_regrown V dq osq
            subst hw''
            generalize grow (redrawn V dq) osq = w1 at hb ⊢
            replace hB := hB.trans (hb.mono hB.size)
            clear hb
            go_wp2_with fail
            exact ⟨⟨j + 1, by omega, by go_num, HN2, hB⟩, by simp [intOf]; omega⟩
          | false =>
            obtain rfl := HNO.out HE.out
            clear HST HNO HE
            refine wp_region_quiet_below (by kernel_rfl) (by kernel_rfl) ?_
            repeat (first
              | (go_big_quiet_want; refine quiet_load rfl rfl la2 Try.underlying47 rfl sizeWt ?_; simp only [Act.put, List.setIfInBounds_toArray, List.set_cons_zero, List.set_cons_succ]; go_big_quiet_on)
              | (go_big_quiet_want; refine quiet_range (off := 0) rfl rfl lpx Try.underlying42 rfl sizePl ?_; simp only [Act.put, List.setIfInBounds_toArray, List.set_cons_zero, List.set_cons_succ]; go_big_quiet_on)
              | (go_big_quiet_want; refine quiet_range (off := o + (j - 1) * 9) rfl rfl lpy Try.underlying42 rfl sizePl ?_; simp only [Act.put, List.setIfInBounds_toArray, List.set_cons_zero, List.set_cons_succ]; go_big_quiet_on)
              | go_big_quiet_step (first | with_reducible exact pE _ _ | with_reducible exact pB _ _))
            refine wpQuiet_nil ?_
            intro _ hw'
            obtain ⟨⟨dq, osq⟩, hw''⟩ := hw'
            have hb := below_regrown V dq osq
            subst hw''
            generalize grow (redrawn V dq) osq = w1 at hb ⊢
            replace hB := hB.trans (hb.mono hB.size)
            clear hb
            go_wp2_with fail
            go_ret
            exact ⟨rfl, hB⟩
    · obtain rfl : j = n := by omega
      have e := HM.out
      rw [hR.out] at e
      subst e
      clear HM
      go_wp2_with fail
      go_ret
      exact ⟨rfl, hB⟩

set_option maxHeartbeats 4000000 in
theorem qrmay_ok (L : List Wt) (la : Option Addr) (lc : Nat) (lm : L.length ≤ 9223372036854775807) (w : World) (hS : Li Wt.vals 0 la L w) : Calls Try.prog 16 #[.slice la L.length lc] w fun e w' => e = .returned (.bool (mayW L)) ∧ Below w.heap.size w w' := by
  obtain ⟨n, hn⟩ : ∃ n, Hid (L.length = n) := ⟨_, rfl⟩
  obtain ⟨R, hR⟩ : ∃ R, Hid (mayM L n = R) := ⟨_, rfl⟩
  have e0 : mayW L = R := by unfold mayW; rw [hn.out]; exact hR.out
  rw [e0]
  rw [hn.out] at lm ⊢
  have HS : Hid (Li Wt.vals 0 la L w) := hS
  clear hS e0
  go_enter Try.func16, Try.ntmps16
  go_wp2_with fail
  go_loopw [3] (fun iv wr => ∃ j : Nat, j ≤ n ∧ iv = .int .i64 j ∧ Hid (mayM L j = true) ∧ Below w.heap.size w wr) (fun iv _ => n - (intOf iv).toNat)
  case atStart => exact ⟨0, by omega, rfl, rfl, Below.refl _ _⟩
  case round =>
    obtain ⟨j, hj, rfl, HM, hB⟩ := hrel
    rename World => wr
    by_cases hjn : j < n
    · have j0 : (j : Int) < (n : Int) := by omega
      have j1 : (0 : Int) ≤ (j : Int) := by omega
      obtain ⟨x, hx⟩ : ∃ k, L[j]? = some k := ⟨_, List.getElem?_eq_getElem (by rw [hn.out]; exact hjn)⟩
      obtain ⟨b, o, rfl, _, hbl, hr⟩ := (HS.out.below hB).at Wt.vals_length j x hx
      have HST : Hid (stepM L j x = true → mayM L (j + 1) = true) := fun h => by rw [mayM_next L j x hx, HM.out, h]; rfl
      have HNO : Hid (stepM L j x = false → R = false) := fun h => by rw [← hR.out]; exact mayM_no L j n hn.out hjn (by rw [mayM_next L j x hx, h, Bool.and_false])
      obtain ⟨z, hz⟩ : ∃ z, noE x.e = z := ⟨_, rfl⟩
      have HZ : Hid (noE x.e = z) := hz
      have kE : ∀ w, (binOp .eql 45 (.agg x.e.vals.toArray) (.agg #[.int .i64 0, .int .i64 0, .int .i64 0, .int .u64 0, .int .u64 0, .string ⟨#[]⟩])).run Try.prog w = .ok (.bool z) w := eqlEn x.e En.zero z hz
      clear hz HM hx
      obtain ⟨V, hV⟩ : ∃ V, V = wr := ⟨_, rfl⟩
      rw [← hV] at hr hbl hB ⊢
      clear hV
      have lr9 : ∀ w', (∃ p : Regrown, w' = grow (redrawn V p.d) p.os) → w'.rangeAt b (o + j * 9) x.vals := fun w' ⟨p, e⟩ => e ▸ range_block hr ((below_regrown V p.d p.os).block b hbl)
      have lpx : ∀ w', (∃ p : Regrown, w' = grow (redrawn V p.d) p.os) → w'.rangeAt b (o + j * 9) x.p.vals := fun w' h q v hv => lr9 w' h q v (by
        obtain ⟨hq, _⟩ := List.getElem?_eq_some_iff.1 hv
        rw [show x.vals = x.p.vals ++ x.e.vals from rfl, List.getElem?_append_left hq]; exact hv)
      have lex : ∀ w', (∃ p : Regrown, w' = grow (redrawn V p.d) p.os) → w'.rangeAt b (o + j * 9 + 3) x.e.vals := fun w' h q v hv => by
        have := lr9 w' h (3 + q) v (by rw [show x.vals = x.p.vals ++ x.e.vals from rfl, List.getElem?_append_right (by show 3 ≤ 3 + q; omega)]; rw [show 3 + q - x.p.vals.length = q by show 3 + q - 3 = q; omega]; exact hv)
        rw [Nat.add_assoc]; exact this
      clear lr9 hr hbl
      go_upto_region 4 with fail
      try simp only [Act.put, List.setIfInBounds_toArray, List.set_cons_zero, List.set_cons_succ]
      cases z with
      | true =>
        obtain rfl := HNO.out (by unfold stepM; rw [HZ.out]; rfl)
        clear HST HNO HZ
        refine wp_region_quiet_below (by kernel_rfl) (by kernel_rfl) ?_
        repeat (first
          | (go_big_quiet_want; refine quiet_range (off := o + j * 9 + 3) rfl rfl lex Try.underlying45 rfl sizeEn ?_; simp only [Act.put, List.setIfInBounds_toArray, List.set_cons_zero, List.set_cons_succ]; go_big_quiet_on)
          | go_big_quiet_step (fail))
        refine wpQuiet_nil ?_
        intro _ hw'
        obtain ⟨⟨dq, osq⟩, hw''⟩ := hw'
        have hb := below_regrown V dq osq
        subst hw''
        generalize grow (redrawn V dq) osq = w1 at hb ⊢
        replace hB := hB.trans (hb.mono hB.size)
        clear hb
        go_wp2_with fail
        go_ret
        exact ⟨rfl, hB⟩
      | false =>
        by_cases h0 : j = 0
        · have g0 : decide (0 < j) = false := decide_eq_false (by omega)
          have HN := HST.out (by rw [h0]; unfold stepM; rw [HZ.out]; rfl)
          have HN2 : Hid _ := HN
          clear HN HST HNO HZ h0
          refine wp_region_quiet_below (by kernel_rfl) (by kernel_rfl) ?_
          repeat (first
            | (go_big_quiet_want; refine quiet_range (off := o + j * 9 + 3) rfl rfl lex Try.underlying45 rfl sizeEn ?_; simp only [Act.put, List.setIfInBounds_toArray, List.set_cons_zero, List.set_cons_succ]; go_big_quiet_on)
            | go_big_quiet_step (fail))
          refine wpQuiet_nil ?_
          intro _ hw'
          obtain ⟨⟨dq, osq⟩, hw''⟩ := hw'
          have hb := below_regrown V dq osq
          subst hw''
          generalize grow (redrawn V dq) osq = w1 at hb ⊢
          replace hB := hB.trans (hb.mono hB.size)
          clear hb
          go_wp2_with fail
          exact ⟨⟨j + 1, by omega, by go_num, HN2, hB⟩, by simp [intOf]; omega⟩
        · have g0 : decide (0 < j) = true := decide_eq_true (by omega)
          have d1 : (0 : Int) ≤ (j : Int) - 1 := by omega
          have d2 : (j : Int) - 1 < (n : Int) := by omega
          obtain ⟨y, hy⟩ : ∃ k, L[j - 1]? = some k := ⟨_, List.getElem?_eq_getElem (by rw [hn.out]; omega)⟩
          obtain ⟨b', o', e', _, hbl', hry⟩ := (HS.out.below hB).at Wt.vals_length (j - 1) y hy
          cases e'
          have lpy : ∀ w', (∃ p : Regrown, w' = grow (redrawn V p.d) p.os) → w'.rangeAt b (o + (j - 1) * 9) y.p.vals := fun w' ⟨p, e⟩ q v hv => (e ▸ range_block hry ((below_regrown V p.d p.os).block b hbl') : w'.rangeAt b (o + (j - 1) * 9) y.vals) q v (by
            obtain ⟨hq, _⟩ := List.getElem?_eq_some_iff.1 hv
            rw [show y.vals = y.p.vals ++ y.e.vals from rfl, List.getElem?_append_left hq]; exact hv)
          have pb := rbef_ok y.p x.p
          obtain ⟨t, ht⟩ : ∃ t, befB y.p x.p = t := ⟨_, rfl⟩
          rw [ht] at pb
          have HE : Hid (stepM L j x = t) := by
            show _ = _
            obtain ⟨i, rfl⟩ : ∃ i, j = i + 1 := ⟨j - 1, by omega⟩
            unfold stepM
            rw [Nat.add_sub_cancel] at hy
            simp only [HZ.out, hy, ht]
            rfl
          have pB : ∀ d' os, Calls Try.prog 21 #[.agg y.p.vals.toArray, .agg x.p.vals.toArray] (grow (redrawn V d') os) fun e w'' => e = .returned (.bool t) ∧ ∃ p : Regrown, w'' = grow (redrawn V p.d) p.os := fun d' os => Calls.regrown_of (pb _)
          clear ht hy hry hbl' pb h0 HZ
          cases t with
          | true =>
            have HN := HST.out HE.out
            have HN2 : Hid _ := HN
            clear HN HST HNO HE
            refine wp_region_quiet_below (by kernel_rfl) (by kernel_rfl) ?_
            repeat (first
              | (go_big_quiet_want; refine quiet_range (off := o + j * 9 + 3) rfl rfl lex Try.underlying45 rfl sizeEn ?_; simp only [Act.put, List.setIfInBounds_toArray, List.set_cons_zero, List.set_cons_succ]; go_big_quiet_on)
              | (go_big_quiet_want; refine quiet_range (off := o + j * 9) rfl rfl lpx Try.underlying42 rfl sizePl ?_; simp only [Act.put, List.setIfInBounds_toArray, List.set_cons_zero, List.set_cons_succ]; go_big_quiet_on)
              | (go_big_quiet_want; refine quiet_range (off := o + (j - 1) * 9) rfl rfl lpy Try.underlying42 rfl sizePl ?_; simp only [Act.put, List.setIfInBounds_toArray, List.set_cons_zero, List.set_cons_succ]; go_big_quiet_on)
              | go_big_quiet_step (first | with_reducible exact pB _ _))
            refine wpQuiet_nil ?_
            intro _ hw'
            obtain ⟨⟨dq, osq⟩, hw''⟩ := hw'
            have hb := below_regrown V dq osq
            subst hw''
            generalize grow (redrawn V dq) osq = w1 at hb ⊢
            replace hB := hB.trans (hb.mono hB.size)
            clear hb
            go_wp2_with fail
            exact ⟨⟨j + 1, by omega, by go_num, HN2, hB⟩, by simp [intOf]; omega⟩
          | false =>
            obtain rfl := HNO.out HE.out
            clear HST HNO HE
            refine wp_region_quiet_below (by kernel_rfl) (by kernel_rfl) ?_
            repeat (first
              | (go_big_quiet_want; refine quiet_range (off := o + j * 9 + 3) rfl rfl lex Try.underlying45 rfl sizeEn ?_; simp only [Act.put, List.setIfInBounds_toArray, List.set_cons_zero, List.set_cons_succ]; go_big_quiet_on)
              | (go_big_quiet_want; refine quiet_range (off := o + j * 9) rfl rfl lpx Try.underlying42 rfl sizePl ?_; simp only [Act.put, List.setIfInBounds_toArray, List.set_cons_zero, List.set_cons_succ]; go_big_quiet_on)
              | (go_big_quiet_want; refine quiet_range (off := o + (j - 1) * 9) rfl rfl lpy Try.underlying42 rfl sizePl ?_; simp only [Act.put, List.setIfInBounds_toArray, List.set_cons_zero, List.set_cons_succ]; go_big_quiet_on)
              | go_big_quiet_step (first | with_reducible exact pB _ _))
            refine wpQuiet_nil ?_
            intro _ hw'
            obtain ⟨⟨dq, osq⟩, hw''⟩ := hw'
            have hb := below_regrown V dq osq
            subst hw''
            generalize grow (redrawn V dq) osq = w1 at hb ⊢
            replace hB := hB.trans (hb.mono hB.size)
            clear hb
            go_wp2_with fail
            go_ret
            exact ⟨rfl, hB⟩
    · obtain rfl : j = n := by omega
      have e := HM.out
      rw [hR.out] at e
      subst e
      clear HM
      go_wp2_with fail
      go_ret
      exact ⟨rfl, hB⟩

theorem rord_ok (x : En) (w : World) : Calls Try.prog 20 #[.agg x.arr] w fun e w' => e = .returned (.bool (ordB x)) ∧ Below w.heap.size w w' := by
  have hB := below_box w (.cells x.arr 45)
  have c0 : (w.alloc (.cells x.arr 45)).cell? ⟨w.heap.size, 0, none⟩ = some (.int .i64 x.k) := (blk_new w x.arr 45).cell 0 _ rfl
  have c1 : (w.alloc (.cells x.arr 45)).cell? ⟨w.heap.size, 1, none⟩ = some (.int .i64 x.sv) := (blk_new w x.arr 45).cell 1 _ rfl
  obtain ⟨R, hR⟩ : ∃ R, Hid (ordB x = R) := ⟨_, rfl⟩
  rw [hR.out]
  go_enter Try.func20, Try.ntmps20
  go_upto_region 1 with fail
  try simp only [Act.put]
  generalize w.alloc (Obj.cells x.arr 45) = W at hB c0 c1 ⊢
  by_cases h1 : x.k = 1
  · have d1 : (x.k != 1) = false := by rw [h1]; rfl
    by_cases h2 : x.sv = 2
    · have d2 : (x.sv == 2) = true := by rw [h2]; rfl
      obtain rfl : R = true := by rw [← hR.out]; unfold ordB; simp [h2]
      clear h1 h2 hR
      go_wp2_with fail
      go_ret
      exact ⟨rfl, hB⟩
    · have d2 : (x.sv == 2) = false := by simpa using h2
      obtain ⟨t, ht⟩ : ∃ t, (x.sv == 3) = t := ⟨_, rfl⟩
      obtain rfl : R = t := by rw [← hR.out, ← ht]; unfold ordB; simp [h1, h2]; rfl
      clear h1 h2 hR
      go_wp2_with fail
      go_ret
      exact ⟨rfl, hB⟩
  · have d1 : (x.k != 1) = true := by simpa using h1
    obtain rfl : R = true := by rw [← hR.out]; unfold ordB; simp [h1]
    clear h1 hR
    go_wp2_with fail
    go_ret
    exact ⟨rfl, hB⟩

theorem ris_ok (c m : Nat → Nat) (hc : ∀ i, c i < 4294967296) (x : Wt) (hf : x.fit) (w : World) : Calls Try.prog 26 #[.agg x.arr, .agg (mbc c), .agg (mbc m)] w fun e w' => e = .returned (.bool (isQ c m x)) ∧ Below w.heap.size w w' := by
  obtain ⟨a0, a1, a2, hB⟩ := three_blk (T0 := 47) (T1 := 28) (T2 := 29) (C0 := x.arr) (C1 := mbc c) (C2 := mbc m) (w := w) rfl
  have pS := fun W => rsvc_ok c m hc x.p (svOf x.e) hf.1 W
  rw [show svcB c m x.p (svOf x.e) = isQ c m x from rfl] at pS
  generalize isQ c m x = t at pS ⊢
  go_enter Try.func26, Try.ntmps26
  go_upto_region 1 with fail
  try simp only [Act.put]
  generalize ((w.alloc (Obj.cells x.arr 47)).alloc (Obj.cells (mbc c) 28)).alloc (Obj.cells (mbc m) 29) = W at a0 a1 a2 hB ⊢
  have c3 : W.cell? ⟨w.heap.size, 3, none⟩ = some (.int .i64 x.e.k) := a0.cell 3 _ rfl
  have c4 : W.cell? ⟨w.heap.size, 4, none⟩ = some (.int .i64 x.e.sv) := a0.cell 4 _ rfl
  replace pS := pS W
  by_cases h : x.e.k = 1
  · have e1 : svOf x.e = x.e.sv := if_pos h
    rw [e1] at pS
    have d1 : (x.e.k == 1) = true := by rw [h]; rfl
    clear h e1
    go_wp2_with (first | refine load_blk rfl 28 _ rfl a1 rfl Try.underlying28 rfl sizeCt ?_ | refine load_blk rfl 29 _ rfl a2 rfl Try.underlying29 rfl sizeMb ?_ | refine load_part rfl 42 _ rfl (o := 0) a0 rfl x.p.vals x.place Try.underlying42 rfl sizePl ?_)
    refine pS.mono ?_
    rintro r w2 ⟨rfl, hb⟩
    replace hB := hB.trans (hb.mono hB.size)
    clear a0 a1 a2 hb pS
    go_wp2_with fail
    go_ret
    exact ⟨rfl, hB⟩
  · have e1 : svOf x.e = 2 := if_neg h
    rw [e1] at pS
    have d1 : (x.e.k == 1) = false := by simpa using h
    clear h e1
    go_wp2_with (first | refine load_blk rfl 28 _ rfl a1 rfl Try.underlying28 rfl sizeCt ?_ | refine load_blk rfl 29 _ rfl a2 rfl Try.underlying29 rfl sizeMb ?_ | refine load_part rfl 42 _ rfl (o := 0) a0 rfl x.p.vals x.place Try.underlying42 rfl sizePl ?_)
    refine pS.mono ?_
    rintro r w2 ⟨rfl, hb⟩
    replace hB := hB.trans (hb.mono hB.size)
    clear a0 a1 a2 hb pS
    go_wp2_with fail
    go_ret
    exact ⟨rfl, hB⟩

set_option maxHeartbeats 1000000 in
theorem rhasw_ok (x : Wt) (L : List Wt) (la : Option Addr) (lc : Nat) (lm : L.length ≤ 9223372036854775807) (w : World) (hS0 : Li Wt.vals 0 la L w) : Calls Try.prog 17 #[.slice la L.length lc, .agg x.arr] w fun e w' => e = .returned (.bool (hasW L x)) ∧ Below w.heap.size w w' := by
  obtain ⟨n, hn⟩ : ∃ n, Hid (L.length = n) := ⟨_, rfl⟩
  obtain ⟨u, hu⟩ : ∃ u, Hid (hasW L x = u) := ⟨_, rfl⟩
  rw [hn.out] at lm ⊢
  rw [hu.out]
  have b1 := blk_new w x.arr 47
  have hB := below_box w (.cells x.arr 47)
  go_enter Try.func17, Try.ntmps17
  go_upto_region 1 with fail
  try simp only [Act.put]
  generalize w.alloc (Obj.cells x.arr 47) = W at b1 hB ⊢
  go_wp2_with fail
  go_loopw [5] (fun iv wr => ∃ j : Nat, j ≤ n ∧ iv = .int .i64 j ∧ Hid (∀ k ∈ L.take j, k ≠ x) ∧ Blk w.heap.size x.arr 47 wr ∧ Below w.heap.size w wr) (fun iv _ => n - (intOf iv).toNat)
  case atStart => exact ⟨0, by omega, rfl, fun d h => by simp at h, b1, hB⟩
  case round =>
    clear b1 hB
    obtain ⟨j, hj, rfl, h0, b1, hB⟩ := hrel
    rename World => wr
    by_cases hjn : j < n
    · have j0 : (j : Int) < (n : Int) := by omega
      have j1 : (0 : Int) ≤ (j : Int) := by omega
      obtain ⟨k, hk⟩ : ∃ k, L[j]? = some k := ⟨_, List.getElem?_eq_getElem (by rw [hn.out]; exact hjn)⟩
      obtain ⟨b, o, rfl, _, hbl, hr⟩ := (hS0.below hB).at Wt.vals_length j k hk
      obtain ⟨t, ht⟩ : ∃ t, Hid (Wt.same k x = t) := ⟨_, rfl⟩
      have kK : ∀ w, (binOp .eql 47 (.agg k.vals.toArray) (.agg x.arr)).run Try.prog w = .ok (.bool t) w := eqlWt k x t ht.out
      have lb : ∀ w', (∃ p : Regrown, w' = grow (redrawn wr p.d) p.os) → w'.rangeAt b (o + j * 9) k.vals := fun w' ⟨p, e⟩ => e ▸ range_block hr ((below_regrown wr p.d p.os).block b hbl)
      have la2 := b1.regrown
      have HF : t = true → Hid (u = true) := fun h => by
        show _ = _
        rw [← hu.out, hasW_iff, ← (Wt.same_iff k x).1 (ht.out.trans h)]
        exact List.mem_of_getElem? hk
      have HN : t = false → Hid (∀ k ∈ L.take (j + 1), k ≠ x) := fun h => by
        intro e he
        rw [List.take_add_one, hk] at he
        rcases List.mem_append.1 he with he | he
        · exact h0.out e he
        · simp at he
          subst he
          rintro rfl
          rw [Wt.same_self] at ht
          have := ht.out.trans h
          cases this
      clear hk hr hbl h0 ht
      go_upto_region 4 with fail
      try simp only [Act.put, List.setIfInBounds_toArray, List.set_cons_zero, List.set_cons_succ]
      refine wp_region_quiet_below (by kernel_rfl) (by kernel_rfl) ?_
      repeat (first
        | (go_big_quiet_want; refine quiet_range (off := o + j * 9) rfl rfl lb Try.underlying47 rfl sizeWt ?_; simp only [Act.put, List.setIfInBounds_toArray, List.set_cons_zero, List.set_cons_succ]; go_big_quiet_on)
        | (go_big_quiet_want; refine quiet_load rfl rfl la2 Try.underlying47 rfl sizeWt ?_; simp only [Act.put, List.setIfInBounds_toArray, List.set_cons_zero, List.set_cons_succ]; go_big_quiet_on)
        | go_big_quiet_step (fail))
      refine wpQuiet_nil ?_
      intro _ hw'
      obtain ⟨⟨dq, osq⟩, hw''⟩ := hw'
      have hb := below_regrown wr dq osq
      subst hw''
      generalize grow (redrawn wr dq) osq = w1 at hb ⊢
      replace b1 := b1.below hb
      replace hB := hB.trans (hb.mono hB.size)
      clear hb la2 lb kK
      cases t with
      | true =>
        obtain rfl := (HF rfl).out
        clear HF HN b1
        go_wp2_with fail
        go_ret
        exact ⟨rfl, hB⟩
      | false =>
        replace HN := HN rfl
        clear HF
        go_wp2_with fail
        exact ⟨⟨j + 1, by omega, by go_num, HN, b1, hB⟩, by simp [intOf]; omega⟩
    · obtain rfl : j = n := by omega
      obtain rfl : u = false := by
        rw [← hu.out, Bool.eq_false_iff]
        intro h
        exact h0.out x (by rw [List.take_of_length_le (by rw [hn.out]; omega)]; exact (hasW_iff L x).1 h) rfl
      clear h0 b1
      go_wp2_with fail
      go_ret
      exact ⟨rfl, hB⟩

set_option maxHeartbeats 1000000 in
theorem wsame_ok (L : List Wt) (la lb : Option Addr) (lc ld : Nat) (lm : L.length ≤ 9223372036854775807) (w : World) (hA : Li Wt.vals 0 la L w) (hC : Li Wt.vals 0 lb L w) : Calls Try.prog 11 #[.slice la L.length lc, .slice lb L.length ld] w fun e w' => e = .returned (.bool true) ∧ Below w.heap.size w w' := by
  obtain ⟨n, hn⟩ : ∃ n, Hid (L.length = n) := ⟨_, rfl⟩
  rw [hn.out] at lm ⊢
  have n0 : ((n : Int) != (n : Int)) = false := by simp
  go_enter Try.func11, Try.ntmps11
  go_wp2_with fail
  clear n0
  go_loopw [5] (fun iv wr => ∃ j : Nat, j ≤ n ∧ iv = .int .i64 j ∧ Li Wt.vals 0 la L wr ∧ Li Wt.vals 0 lb L wr ∧ Below w.heap.size w wr) (fun iv _ => n - (intOf iv).toNat)
  case atStart => exact ⟨0, by omega, rfl, hA, hC, Below.refl _ _⟩
  case round =>
    clear hA hC
    obtain ⟨j, hj, rfl, hA, hC, hB⟩ := hrel
    by_cases hjn : j < n
    · have j0 : (j : Int) < (n : Int) := by omega
      have j1 : (0 : Int) ≤ (j : Int) := by omega
      obtain ⟨k, hk⟩ : ∃ k, L[j]? = some k := ⟨_, List.getElem?_eq_getElem (by rw [hn.out]; exact hjn)⟩
      obtain ⟨b, o, rfl, _, hbl, hr⟩ := hA.at Wt.vals_length j k hk
      obtain ⟨b', o', rfl, _, hbl', hr'⟩ := hC.at Wt.vals_length j k hk
      have kK : ∀ w, (binOp .neq 47 (.agg k.vals.toArray) (.agg k.vals.toArray)).run Try.prog w = .ok (.bool false) w := neqWt k k true (Wt.same_self k)
      have la : ∀ w', (∃ p : Regrown, w' = grow (redrawn wr p.d) p.os) → w'.rangeAt b (o + j * 9) k.vals := fun w' ⟨p, e⟩ => e ▸ range_block hr ((below_regrown wr p.d p.os).block b hbl)
      have lb : ∀ w', (∃ p : Regrown, w' = grow (redrawn wr p.d) p.os) → w'.rangeAt b' (o' + j * 9) k.vals := fun w' ⟨p, e⟩ => e ▸ range_block hr' ((below_regrown wr p.d p.os).block b' hbl')
      clear hk hr hr' hbl hbl'
      go_upto_region 6 with fail
      try simp only [Act.put, List.setIfInBounds_toArray, List.set_cons_zero, List.set_cons_succ]
      refine wp_region_quiet_below (by kernel_rfl) (by kernel_rfl) ?_
      repeat (first
        | (go_big_quiet_want; refine quiet_range (off := o + j * 9) rfl rfl la Try.underlying47 rfl sizeWt ?_; simp only [Act.put, List.setIfInBounds_toArray, List.set_cons_zero, List.set_cons_succ]; go_big_quiet_on)
        | (go_big_quiet_want; refine quiet_range (off := o' + j * 9) rfl rfl lb Try.underlying47 rfl sizeWt ?_; simp only [Act.put, List.setIfInBounds_toArray, List.set_cons_zero, List.set_cons_succ]; go_big_quiet_on)
        | go_big_quiet_step (fail))
      refine wpQuiet_nil ?_
      intro _ hw'
      obtain ⟨⟨dq, osq⟩, hw''⟩ := hw'
      have hb := below_regrown wr dq osq
      subst hw''
      generalize grow (redrawn wr dq) osq = w1 at hb ⊢
      replace hA := hA.below hb
      replace hC := hC.below hb
      replace hB := hB.trans (hb.mono hB.size)
      clear hb
      clear la lb kK
      go_wp2_with fail
      exact ⟨⟨j + 1, by omega, by go_num, hA, hC, hB⟩, by simp [intOf]; omega⟩
    · obtain rfl : j = n := by omega
      clear hA hC
      go_wp2_with fail
      go_ret
      exact ⟨rfl, hB⟩

end Go.Proofs.Ytmnpbjaofemelaa
