/-
  What is left behind a place is what is left behind an earlier one, without what lies between: the law CutRest returns true for every input.
  No condition beyond the form's own.
-/
import Derived.Test.YtodemfkjieonoaaRows
import Derived.Test.YtodemfkjieonoaaCtF
import Derived.Test.YtodemfkjieonoaaCtT
import Derived.Test.YtodemfkjieonoaaCtN
import Derived.WalkKit
import Derived.ProofKit
import Derived.OpenShut
import Derived.ShutString
import Derived.SizedLaws
import Derived.ChangeOld
import Derived.Below
namespace Go.Proofs.Ytodemfkjieonoaa.cutRest
open Go.Sort Go.ChangeShapes Go.WideShapes Go.ChangeAt Go.RowKit
open Go.ChangeMaps (open_string shut_string)
set_option linter.unusedVariables false
set_option maxRecDepth 10000

theorem own : ownKnob Try.prog.godebug = none := by kernel_rfl
theorem length_bytes (s : ByteArray) : s.data.toList.length = s.size := by rw [Array.length_toList]; rfl

set_option maxHeartbeats 16000000 in
theorem walk (a b m : Nat → Nat) (g : Pl) (ka : ∀ i, a i < 4294967296) (kb : ∀ i, b i < 4294967296) (kg : g.r < 4294967296) (l : Pl) (kl : l.r < 4294967296) (w : World) : Calls Try.prog 6 #[.agg (cwc a b m g), .agg l.arr] w fun e w' => e = .returned (.bool true) ∧ Below w.heap.size w w' := by
  have pX := rest_ok g kg b m kb
  have pY := rest_ok l kl b m kb
  have HX := rest_later b m g l
  have e2 := missL_len b m 100 (aheadC l)
  have pP := fun la lb lc ld u hA hC => places_ok (missL b m 100 (aheadC l)) la lb lc ld (by omega) u hA hC
  unfold Placed at pX pY
  generalize missL b m 100 (aheadC g) = X at pX HX
  generalize missL b m 100 (aheadC l) = Y at pY pP HX
  have pB := rbef_ok l g
  generalize befB l g = BB at pB HX
  obtain ⟨n, hn⟩ : ∃ n, X.length = n := ⟨_, rfl⟩
  obtain ⟨y, hy⟩ : ∃ n, Y.length = n := ⟨_, rfl⟩
  have HN : Hid (X.length = n) := hn
  have HL : Hid (Y.length = y) := hy
  rw [hn] at pX HX
  rw [hy] at pY pP
  clear hn hy ka kb kg kl e2
  obtain ⟨a0, a1, hB⟩ := two_blk (T0 := 30) (T1 := 28) (C0 := cwc a b m g) (C1 := l.arr) (w := w) rfl
  go_enter Try.func6, Try.ntmps6
  go_upto_region 1 with fail
  generalize (w.alloc (Obj.cells (cwc a b m g) 30)).alloc (Obj.cells l.arr 28) = W at a0 a1 hB ⊢
  have hC0 := hB.drew
  refine wp_region_held_drew (S := fun w' => Blk w.heap.size (cwc a b m g) 30 w' ∧ Blk (w.heap.size + 1) l.arr 28 w') (by kernel_rfl) ⟨a0.drew, a1.drew⟩ (fun hHeld => ?_)
  refine wpAnyH_take (i := 0) (v := ?v1) rfl (by kernel_rfl) (by kernel_rfl) (by kernel_rfl) (fun _ _ _ h => h) (Or.inl ⟨by rfl, ?hy1⟩) hHeld ?rest1
  case hy1 => (intro w hSw; clear hSw; go_simp; try with_reducible rfl)
  try simp only [List.getElem_toArray]
  try simp only [List.getElem_cons_succ]
  try simp only [List.getElem_cons_zero]
  try simp only [Act.put]
  try simp only [List.setIfInBounds_toArray]
  try simp only [List.set_cons_succ]
  try simp only [List.set_cons_zero]
  refine' wpAnyH_take (i := 1) (v := _) rfl (by kernel_rfl) (by kernel_rfl) (by kernel_rfl) (fun _ _ _ h => h) (yieldsIf_load_mid (by rfl) _ _ rfl w.heap.size 24 rfl g.vals _ ?hS2 Try.underlying28 rfl sizePl) hHeld ?rest2
  case hS2 => exact fun w h => h.1.range 24 g.vals (cw_g a b m g)
  try simp only [List.getElem_toArray]
  try simp only [List.getElem_cons_succ]
  try simp only [List.getElem_cons_zero]
  try simp only [Act.put]
  try simp only [List.setIfInBounds_toArray]
  try simp only [List.set_cons_succ]
  try simp only [List.set_cons_zero]
  refine wpAnyH_take (i := 2) (v := ?v3) rfl (by kernel_rfl) (by kernel_rfl) (by kernel_rfl) (fun _ _ _ h => h) (Or.inl ⟨by rfl, ?hy3⟩) hHeld ?rest3
  case hy3 => (intro w hSw; clear hSw; go_simp; try with_reducible rfl)
  try simp only [List.getElem_toArray]
  try simp only [List.getElem_cons_succ]
  try simp only [List.getElem_cons_zero]
  try simp only [Act.put]
  try simp only [List.setIfInBounds_toArray]
  try simp only [List.set_cons_succ]
  try simp only [List.set_cons_zero]
  refine' wpAnyH_take (i := 3) (v := _) rfl (by kernel_rfl) (by kernel_rfl) (by kernel_rfl) (fun _ _ _ h => h) (yieldsIf_load_mid (by rfl) _ _ rfl w.heap.size 8 rfl (row8 b) _ ?hS4 Try.underlying25 rfl sizeCt) hHeld ?rest4
  case hS4 => exact fun w h => h.1.range 8 (row8 b) (cw_b a b m g)
  try simp only [List.getElem_toArray]
  try simp only [List.getElem_cons_succ]
  try simp only [List.getElem_cons_zero]
  try simp only [Act.put]
  try simp only [List.setIfInBounds_toArray]
  try simp only [List.set_cons_succ]
  try simp only [List.set_cons_zero]
  refine wpAnyH_take (i := 4) (v := ?v5) rfl (by kernel_rfl) (by kernel_rfl) (by kernel_rfl) (fun _ _ _ h => h) (Or.inl ⟨by rfl, ?hy5⟩) hHeld ?rest5
  case hy5 => (intro w hSw; clear hSw; go_simp; try with_reducible rfl)
  try simp only [List.getElem_toArray]
  try simp only [List.getElem_cons_succ]
  try simp only [List.getElem_cons_zero]
  try simp only [Act.put]
  try simp only [List.setIfInBounds_toArray]
  try simp only [List.set_cons_succ]
  try simp only [List.set_cons_zero]
  refine' wpAnyH_take (i := 5) (v := _) rfl (by kernel_rfl) (by kernel_rfl) (by kernel_rfl) (fun _ _ _ h => h) (yieldsIf_load_mid (by rfl) _ _ rfl w.heap.size 16 rfl (row8 m) _ ?hS6 Try.underlying26 rfl sizeMb) hHeld ?rest6
  case hS6 => exact fun w h => h.1.range 16 (row8 m) (cw_m a b m g)
  try simp only [List.getElem_toArray]
  try simp only [List.getElem_cons_succ]
  try simp only [List.getElem_cons_zero]
  try simp only [Act.put]
  try simp only [List.setIfInBounds_toArray]
  try simp only [List.set_cons_succ]
  try simp only [List.set_cons_zero]
  refine' wpAnyH_take (i := 7) (v := _) rfl (by kernel_rfl) (by kernel_rfl) (by kernel_rfl) (fun _ _ _ h => h) (yieldsIf_load_mid (by rfl) _ _ rfl (w.heap.size + 1) 0 rfl l.vals _ ?hS7 Try.underlying28 rfl sizePl) hHeld ?rest7
  case hS7 => exact fun w h => h.2.whole
  try simp only [List.getElem_toArray]
  try simp only [List.getElem_cons_succ]
  try simp only [List.getElem_cons_zero]
  try simp only [Act.put]
  try simp only [List.setIfInBounds_toArray]
  try simp only [List.set_cons_succ]
  try simp only [List.set_cons_zero]
  refine wpAnyH_take (i := 8) (v := ?v8) rfl (by kernel_rfl) (by kernel_rfl) (by kernel_rfl) (fun _ _ _ h => h) (Or.inl ⟨by rfl, ?hy8⟩) hHeld ?rest8
  case hy8 => (intro w hSw; clear hSw; go_simp; try with_reducible rfl)
  try simp only [List.getElem_toArray]
  try simp only [List.getElem_cons_succ]
  try simp only [List.getElem_cons_zero]
  try simp only [Act.put]
  try simp only [List.setIfInBounds_toArray]
  try simp only [List.set_cons_succ]
  try simp only [List.set_cons_zero]
  refine' wpAnyH_take (i := 9) (v := _) rfl (by kernel_rfl) (by kernel_rfl) (by kernel_rfl) (fun _ _ _ h => h) (yieldsIf_load_mid (by rfl) _ _ rfl w.heap.size 8 rfl (row8 b) _ ?hS9 Try.underlying25 rfl sizeCt) hHeld ?rest9
  case hS9 => exact fun w h => h.1.range 8 (row8 b) (cw_b a b m g)
  try simp only [List.getElem_toArray]
  try simp only [List.getElem_cons_succ]
  try simp only [List.getElem_cons_zero]
  try simp only [Act.put]
  try simp only [List.setIfInBounds_toArray]
  try simp only [List.set_cons_succ]
  try simp only [List.set_cons_zero]
  refine wpAnyH_take (i := 10) (v := ?v10) rfl (by kernel_rfl) (by kernel_rfl) (by kernel_rfl) (fun _ _ _ h => h) (Or.inl ⟨by rfl, ?hy10⟩) hHeld ?rest10
  case hy10 => (intro w hSw; clear hSw; go_simp; try with_reducible rfl)
  try simp only [List.getElem_toArray]
  try simp only [List.getElem_cons_succ]
  try simp only [List.getElem_cons_zero]
  try simp only [Act.put]
  try simp only [List.setIfInBounds_toArray]
  try simp only [List.set_cons_succ]
  try simp only [List.set_cons_zero]
  refine' wpAnyH_take (i := 11) (v := _) rfl (by kernel_rfl) (by kernel_rfl) (by kernel_rfl) (fun _ _ _ h => h) (yieldsIf_load_mid (by rfl) _ _ rfl w.heap.size 16 rfl (row8 m) _ ?hS11 Try.underlying26 rfl sizeMb) hHeld ?rest11
  case hS11 => exact fun w h => h.1.range 16 (row8 m) (cw_m a b m g)
  try simp only [List.getElem_toArray]
  try simp only [List.getElem_cons_succ]
  try simp only [List.getElem_cons_zero]
  try simp only [Act.put]
  try simp only [List.setIfInBounds_toArray]
  try simp only [List.set_cons_succ]
  try simp only [List.set_cons_zero]
  refine wpAnyH_ready (rs := [6]) (by kernel_rfl) (by simp) ?_
  refine AllReadyH.cons rfl (fun K hK => ?_) (AllReadyH.nil)
  go_simp
  go_wp2_with (refine (pX _).mono ?_; rintro r u1 ⟨⟨l1, c1, rfl, cap1, hq⟩, hb⟩)
  have xS1 := hq.mono (Nat.zero_le _)
  clear hq
  have hC1 := hC0.trans (hb.mono hC0.size)
  refine hK.out _ _ ⟨hHeld.1.below hb, hHeld.2.below hb⟩ (fun hHeld => ?_)
  clear hK K hb hC0
  refine wpAnyH_ready (rs := [12]) (by kernel_rfl) (by simp) ?_
  refine AllReadyH.cons rfl (fun K hK => ?_) (AllReadyH.nil)
  go_simp
  go_wp2_with (refine (pY _).mono ?_; rintro r u2 ⟨⟨l2, c2, rfl, cap2, hq⟩, hb⟩)
  have yS2 := hq.mono (Nat.zero_le _)
  clear hq
  have hC2 := hC1.trans (hb.mono hC1.size)
  have xS2 := xS1.below hb
  refine hK.out _ _ ⟨hHeld.1.below hb, hHeld.2.below hb⟩ (fun hHeld => ?_)
  clear hK K hb hC1 xS1
  refine wpAnyH_take (i := 13) (v := ?v12) rfl (by kernel_rfl) (by kernel_rfl) (by kernel_rfl) (fun _ _ _ h => h) (Or.inl ⟨by rfl, ?hy12⟩) hHeld ?rest12
  case hy12 => (intro w hSw; clear hSw; go_simp; try with_reducible rfl)
  try simp only [List.getElem_toArray]
  try simp only [List.getElem_cons_succ]
  try simp only [List.getElem_cons_zero]
  try simp only [Act.put]
  try simp only [List.setIfInBounds_toArray]
  try simp only [List.set_cons_succ]
  try simp only [List.set_cons_zero]
  refine wpAnyH_take (i := 14) (v := ?v13) rfl (by kernel_rfl) (by kernel_rfl) (by kernel_rfl) (fun _ _ _ h => h) (Or.inl ⟨by rfl, ?hy13⟩) hHeld ?rest13
  case hy13 => (intro w hSw; clear hSw; go_simp; try with_reducible rfl)
  try simp only [List.getElem_toArray]
  try simp only [List.getElem_cons_succ]
  try simp only [List.getElem_cons_zero]
  try simp only [Act.put]
  try simp only [List.setIfInBounds_toArray]
  try simp only [List.set_cons_succ]
  try simp only [List.set_cons_zero]
  refine wpAnyH_done (by kernel_rfl) ?_ _
  have a0 := hHeld.1
  have a1 := hHeld.2
  have hB := hC2
  have xS := xS2
  have yS := yS2
  clear hHeld hC2 xS2 yS2 pX pY
  go_wp2_with fail
  refine (fixed_ok _).mono ?_
  rintro r w3 ⟨rfl, hb⟩
  replace a0 := a0.below hb
  replace a1 := a1.below hb
  replace xS := xS.below hb
  replace yS := yS.below hb
  replace hB := hB.trans (hb.mono hB.size)
  clear hb
  go_wp2_with (first | refine load_want rfl 28 _ rfl a1 rfl Try.underlying28 rfl sizePl ?_ | refine load_wpart rfl 28 _ rfl (o := 24) a0 rfl g.vals (cw_g a b m g) Try.underlying28 rfl sizePl ?_)
  refine (pB _).mono ?_
  rintro r w4 ⟨rfl, hb⟩
  replace a1 := a1.below hb
  replace xS := xS.below hb
  replace yS := yS.below hb
  replace hB := hB.trans (hb.mono hB.size)
  clear hb
  clear a0 pB
  cases BB with
  | true =>
    clear xS yS a1 pP HX
    go_wp2_with fail
    refine (fixed_ok _).mono ?_
    rintro r w5 ⟨rfl, hb⟩
    replace hB := hB.trans (hb.mono hB.size)
    clear hb
    go_wp2_with fail
    go_ret
    exact ⟨rfl, hB⟩
  | false =>
    by_cases hn : n < 100
    · have hn1 : ¬ (100 : Int) ≤ (n : Int) := by omega
      have HY : Hid (dropW l X = Y) := HX rfl hn
      clear HX hn
      go_wp2_with fail
      clear hn1
      go_loopw [7] (fun iv wr => ∃ j : Nat, j ≤ n ∧ iv = .int .i64 j ∧ Hid (dropW l (X.drop j) = Y) ∧ Blk (w.heap.size + 1) l.arr 28 wr ∧ Li Pl.vals 0 l1 X wr ∧ Li Pl.vals 0 l2 Y wr ∧ Below w.heap.size w wr) (fun iv _ => n - (intOf iv).toNat)
      case atStart => exact ⟨0, by omega, rfl, HY, a1, xS, yS, hB⟩
      case round =>
        clear a1 xS yS hB
        obtain ⟨j, hj, rfl, hJ, a1, xS, yS, hB⟩ := hrel
        by_cases hjn : j < n
        · have j0 : (j : Int) < (n : Int) := by omega
          have jd : decide ((j : Int) < (n : Int)) = true := by simpa using hjn
          have jd2 : decide (j < n) = true := by simpa using hjn
          have j1 : (0 : Int) ≤ (j : Int) := by omega
          obtain ⟨p, hp⟩ : ∃ p, X[j]? = some p := ⟨_, List.getElem?_eq_getElem (by rw [HN.out]; exact hjn)⟩
          obtain ⟨bb, oo, rfl, _, hbl, hr⟩ := xS.at Pl.vals_length j p hp
          have hdr : X.drop j = p :: X.drop (j + 1) := by
            obtain ⟨h1, h2⟩ := List.getElem?_eq_some_iff.1 hp
            rw [← h2]
            exact List.drop_eq_getElem_cons h1
          have pPb := rbef_ok p l
          have lz : ∀ w', (∃ p : Regrown, w' = grow (redrawn wr p.d) p.os) → w'.rangeAt bb (oo + j * 3) p.vals := fun w' ⟨q, e⟩ => e ▸ range_block hr ((below_regrown wr q.d q.os).block bb hbl)
          have ly := a1.regrown
          cases hPB : befB p l with
          | true =>
            have HS : Hid (dropW l (X.drop (j + 1)) = Y) := by rw [← hJ.out, hdr, dropW_yes l p _ hPB]; rfl
            rw [hPB] at pPb
            clear hPB hdr hp hr hJ
            go_upto_region 5 with fail
            try simp only [Act.put, List.setIfInBounds_toArray, List.set_cons_zero, List.set_cons_succ]
            have r1 : ∀ d' os, Calls Try.prog 19 #[.agg p.vals.toArray, .agg l.arr] (grow (redrawn wr d') os) fun e w'' => e = .returned (.bool true) ∧ ∃ p : Regrown, w'' = grow (redrawn wr p.d) p.os := fun d' os => Calls.regrown_of (pPb _)
            refine wp_region_quiet_below (by kernel_rfl) (by kernel_rfl) ?_
            repeat (first
              | (go_big_quiet_want; refine quiet_range (off := oo + j * 3) rfl rfl lz Try.underlying28 rfl sizePl ?_; simp only [Act.put, List.setIfInBounds_toArray, List.set_cons_zero, List.set_cons_succ]; go_big_quiet_on)
              | (go_big_quiet_want; refine quiet_load rfl rfl ly Try.underlying28 rfl sizePl ?_; simp only [Act.put, List.setIfInBounds_toArray, List.set_cons_zero, List.set_cons_succ]; go_big_quiet_on)
              | go_big_quiet_step (first | with_reducible exact r1 _ _))
            refine wpQuiet_nil ?_
            intro _ hw'
            obtain ⟨⟨dq, osq⟩, hw''⟩ := hw'
            have hb := below_regrown wr dq osq
            subst hw''
            generalize grow (redrawn wr dq) osq = w5 at hb ⊢
            replace a1 := a1.below hb
            replace xS := xS.below hb
            replace yS := yS.below hb
            replace hB := hB.trans (hb.mono hB.size)
            clear hb
            clear r1 lz ly
            go_wp2_with fail
            exact ⟨⟨j + 1, by omega, by go_num, HS, a1, xS, yS, hB⟩, by simp [intOf]; omega⟩
          | false =>
            have hd : X.drop j = Y := by rw [← hJ.out, hdr, dropW_no l p _ hPB]
            have hlen : n - j = y := by rw [← HL.out, ← hd, List.length_drop, HN.out]
            rw [hPB] at pPb
            clear hPB hdr hp hr hJ
            go_upto_region 5 with fail
            try simp only [Act.put, List.setIfInBounds_toArray, List.set_cons_zero, List.set_cons_succ]
            have r1 : ∀ d' os, Calls Try.prog 19 #[.agg p.vals.toArray, .agg l.arr] (grow (redrawn wr d') os) fun e w'' => e = .returned (.bool false) ∧ ∃ p : Regrown, w'' = grow (redrawn wr p.d) p.os := fun d' os => Calls.regrown_of (pPb _)
            refine wp_region_quiet_below (by kernel_rfl) (by kernel_rfl) ?_
            repeat (first
              | (go_big_quiet_want; refine quiet_range (off := oo + j * 3) rfl rfl lz Try.underlying28 rfl sizePl ?_; simp only [Act.put, List.setIfInBounds_toArray, List.set_cons_zero, List.set_cons_succ]; go_big_quiet_on)
              | (go_big_quiet_want; refine quiet_load rfl rfl ly Try.underlying28 rfl sizePl ?_; simp only [Act.put, List.setIfInBounds_toArray, List.set_cons_zero, List.set_cons_succ]; go_big_quiet_on)
              | go_big_quiet_step (first | with_reducible exact r1 _ _))
            refine wpQuiet_nil ?_
            intro _ hw'
            obtain ⟨⟨dq, osq⟩, hw''⟩ := hw'
            have hb := below_regrown wr dq osq
            subst hw''
            generalize grow (redrawn wr dq) osq = w5 at hb ⊢
            replace a1 := a1.below hb
            replace xS := xS.below hb
            replace yS := yS.below hb
            replace hB := hB.trans (hb.mono hB.size)
            clear hb
            clear r1 lz ly
            clear a1
            go_wp2_with (refine cut_li Pl.vals_length rfl _ _ rfl Try.underlying36 rfl (fun w => by kernel_rfl) xS HN.out hj cap1 rfl rfl ?_; intro ad' xD; rw [hd] at xD)
            try rw [hlen]
            refine (pP _ _ _ _ _ xD yS).mono ?_
            rintro r w6 ⟨rfl, hb⟩
            replace hB := hB.trans (hb.mono hB.size)
            clear hb xD yS xS
            go_wp2_with fail
            go_ret
            exact ⟨rfl, hB⟩
        · obtain rfl : j = n := by omega
          have jd : decide ((j : Int) < (j : Int)) = false := by simp
          have hd : X.drop j = Y := by rw [← hJ.out, List.drop_eq_nil_of_le (by rw [HN.out]; omega), dropW_nil]
          have hlen : j - j = y := by rw [← HL.out, ← hd, List.length_drop, HN.out]
          have ly := a1.regrown
          clear hJ
          go_upto_region 5 with fail
          try simp only [Act.put, List.setIfInBounds_toArray, List.set_cons_zero, List.set_cons_succ]
          refine wp_region_quiet_below (by kernel_rfl) (by kernel_rfl) ?_
          repeat (first
            | (go_big_quiet_want; refine quiet_load rfl rfl ly Try.underlying28 rfl sizePl ?_; simp only [Act.put, List.setIfInBounds_toArray, List.set_cons_zero, List.set_cons_succ]; go_big_quiet_on)
            | go_big_quiet_step (fail))
          refine wpQuiet_nil ?_
          intro _ hw'
          obtain ⟨⟨dq, osq⟩, hw''⟩ := hw'
          have hb := below_regrown wr dq osq
          subst hw''
          generalize grow (redrawn wr dq) osq = w5 at hb ⊢
          replace a1 := a1.below hb
          replace xS := xS.below hb
          replace yS := yS.below hb
          replace hB := hB.trans (hb.mono hB.size)
          clear hb
          clear ly
          clear a1
          go_wp2_with (refine cut_li Pl.vals_length rfl _ _ rfl Try.underlying36 rfl (fun w => by kernel_rfl) xS HN.out hj cap1 rfl rfl ?_; intro ad' xD; rw [hd] at xD)
          try rw [hlen]
          refine (pP _ _ _ _ _ xD yS).mono ?_
          rintro r w6 ⟨rfl, hb⟩
          replace hB := hB.trans (hb.mono hB.size)
          clear hb xD yS xS
          go_wp2_with fail
          go_ret
          exact ⟨rfl, hB⟩
    · have hn1 : (100 : Int) ≤ (n : Int) := by omega
      clear hn xS yS a1 pP HX
      go_wp2_with fail
      refine (fixed_ok _).mono ?_
      rintro r w5 ⟨rfl, hb⟩
      replace hB := hB.trans (hb.mono hB.size)
      clear hb
      go_wp2_with fail
      go_ret
      exact ⟨rfl, hB⟩

set_option maxRecDepth 100000 in
theorem lifted (os : Go.Os) (started : os.Started) (H : Type) (enc : TypeId × Value → H) :
    ReturnsInHanded {} Try.checked os 6 .any (Rows.cutRestSpec.pre6 enc Try.prog Try.f6 Rows.cutRestRow.domain false) (Rows.cutRestSpec.post enc Try.prog Try.f6 false true false false) := by
  refine returnsInHanded_of_change_sized (C := Try.checked) own started (by kernel_rfl) Try.func6
    (ChangeSpec.witness6 (enc := enc) (C := Try.checked) false ⟨#[], #[.agg (cwc noMb noMb noMb Pl.zero), .agg Pl.zero.arr], []⟩ 8 (by kernel_rfl) (by kernel_rfl) (by kernel_rfl) (by kernel_rfl)) ?_
  intro W base args ds gs before hval0 hW hcnd hsz0 _
  have hval : ∀ (j : Nat) t v, Try.f6.params[j]? = some t → args[j]? = some v → Value.okWide Try.prog W .any base t v := hval0
  have hsz : (DataW.weightsEach Try.prog (Try.f6.params.toList ++ Rows.cutRestSpec.plain.varTypes Try.prog) (ds ++ gs)).all (· ≤ reachBytes) = true := hsz0
  have hW' := hW
  obtain ⟨p, q, hA0, hV, rfl, hfz, hnd⟩ := hW
  have hA : DataW.TrodAll enc Try.prog W 0 (fun _ => true) true Try.f6.params.toList args.toList ds p := hA0
  rw [Try.params6] at hA hval hsz

  obtain ⟨v0, vs0, d0, ds0, p0, q0, hargs, rfl, rfl, h0, r0⟩ := trodAll_cons hA
  obtain ⟨v1, vs1, d1, ds1, p1, q1, rfl, rfl, rfl, h1, r1⟩ := trodAll_cons r0
  obtain ⟨rfl, rfl, rfl⟩ := trodAll_nil r1
  obtain rfl : args = #[v0, v1] := by cases args; simp_all
  obtain ⟨rfl, rfl⟩ := trodVars_none hV
  obtain ⟨a0_, b0_, m0_, g0_, rfl, ka0, kb0, kg0⟩ := open_cw (by obtain ⟨cs, h1, _⟩ := okWide_struct Try.underlying30 (hval 0 30 v0 rfl rfl); exact ⟨cs, h1⟩) h0
  obtain ⟨p1_, rfl, kp1⟩ := open_pl (by obtain ⟨cs, h1, _⟩ := okWide_struct Try.underlying28 (hval 1 28 v1 rfl rfl); exact ⟨cs, h1⟩) h1
  have hA2 := hA0
  clear hA0 hval0 hsz0
  simp only [List.append_nil] at hW'
  refine (walk a0_ b0_ m0_ g0_ ka0 kb0 kg0 p1_ kp1 W).mono fun e W' ⟨he, bel⟩ => ?_
  subst he
  exact ⟨_, rfl, _, _, _, [], _, [], hW', trodAll_mk1 (shut_bool Try.underlying4 _), (stays_all laidOut bel (by kernel_rfl) hA2), rfl, bel.frame _, fun h => by cases h⟩

theorem over : Rows.cutRestRow.holds Try.pinned (OpenSpec.ofChange Rows.cutRestSpec) :=
  OpenClaim.holds_of_wide 6 Try.f6 rfl rfl rfl rfl rfl rfl rfl ⟨rfl, rfl, rfl, rfl, rfl⟩ rfl rfl rfl rfl rfl (by kernel_rfl) Try.func6 (by kernel_rfl)
    (of_decide_eq_true (by kernel_rfl)) (by unfold Func.isWrapper; first | (rw [if_pos (by decide +kernel)]; kernel_rfl) | (rw [if_neg (by decide +kernel)]; exact ⟨rfl, rfl⟩))
    (fun os started H enc _ => lifted os started H enc)

end Go.Proofs.Ytodemfkjieonoaa.cutRest
namespace Go.Proofs.Ytodemfkjieonoaa

theorem cutRest_holds : Rows.CutRestSaid := cutRest.over
#print axioms cutRest_holds

end Go.Proofs.Ytodemfkjieonoaa
